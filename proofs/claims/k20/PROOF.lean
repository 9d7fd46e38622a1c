import PyProof.Rows.All
import Wide.All
import OpenK.AllK
import Wide.FinOn
import Lean
import PyProof.EqAt
import PyProof.EqKinds
import PyProof.TupleCall
import PyProof.EnumMake
import PyProof.Draws
import PyProof.ZipIter
import PyProof.ConsumeWalk
import PyProof.NeKinds
import PyProof.ListRange
import PyProof.SumWalkG
import PyProof.MeetsSeq
import PySem.Challenge.RW_huedties_k20_fans_turned
set_option Elab.async false
set_option linter.all false
set_option maxRecDepth 100000
namespace L2
open PySem PySem.Spec PyProof.Rows
abbrev Key := Sum Int Str
def keyIs : Key → Value → Bool
  | .inl k, v => Value.isInt k v
  | .inr x, v => Value.isStrOf x v
def keyH (w : World) : Key → Int
  | .inl k => hashInt k
  | .inr x => hashStr w x
theorem keyIs_shape : ∀ {k : Key} {v : Value}, keyIs k v = true → (∃ i t, k = Sum.inl i ∧ v = Value.int i t) ∨ (∃ x t, k = Sum.inr x ∧ v = Value.str x t)
  | .inl i, v, h => by
    obtain ⟨t, e⟩ := Value.isInt_shape (k := i) (v := v) h
    exact .inl ⟨i, t, rfl, e⟩
  | .inr x, v, h => by
    obtain ⟨t, e⟩ := Value.isStrOf_shape (x := x) (v := v) h
    exact .inr ⟨x, t, rfl, e⟩
theorem key_ll (a b : Int) : decide ((Sum.inl a : Key) = Sum.inl b) = (a == b) := by
  by_cases e : a = b
  · subst e; simp
  · have h : ¬ (Sum.inl a : Key) = Sum.inl b := fun q => e (Sum.inl.inj q)
    rw [decide_eq_false h]
    exact (beq_eq_false_iff_ne.mpr e).symm
theorem key_rr (a b : Str) : decide ((Sum.inr a : Key) = Sum.inr b) = decide (a = b) := by
  by_cases e : a = b
  · subst e; simp
  · have h : ¬ (Sum.inr a : Key) = Sum.inr b := fun q => e (Sum.inr.inj q)
    rw [decide_eq_false h, decide_eq_false e]
theorem key_lr (a : Int) (b : Str) : decide ((Sum.inl a : Key) = Sum.inr b) = false := decide_eq_false (fun q => nomatch q)
theorem key_rl (a : Str) (b : Int) : decide ((Sum.inr a : Key) = Sum.inl b) = false := decide_eq_false (fun q => nomatch q)
def mixKind (prog : Program) (w : World) : PySem.KeyKind prog w Key where
  is := keyIs
  hash := keyH w
  inj := fun v a b ha hb => by
    rcases keyIs_shape ha with ⟨i, t, rfl, rfl⟩ | ⟨x, t, rfl, rfl⟩
    · rcases keyIs_shape hb with ⟨j, u, rfl, e⟩ | ⟨y, u, rfl, e⟩
      · injection e with e1 _; rw [e1]
      · exact nomatch e
    · rcases keyIs_shape hb with ⟨j, u, rfl, e⟩ | ⟨y, u, rfl, e⟩
      · exact nomatch e
      · injection e with e1 _; rw [e1]
  byValue := fun k v h => by
    rcases keyIs_shape h with ⟨i, t, rfl, rfl⟩ | ⟨x, t, rfl, rfl⟩ <;> rfl
  pyHash := fun hv h => by
    rcases keyIs_shape hv with ⟨i, t, rfl, rfl⟩ | ⟨x, t, rfl, rfl⟩
    · exact wpAny_pyHash_int h
    · exact wpAny_pyHash_str h
  eqBool := fun hu hv h => by
    rcases keyIs_shape hu with ⟨i, t, rfl, rfl⟩ | ⟨x, t, rfl, rfl⟩
    · rcases keyIs_shape hv with ⟨j, u, rfl, rfl⟩ | ⟨y, u, rfl, rfl⟩
      · rw [key_ll] at h; exact wpAny_eqBool_int h
      · rw [key_lr] at h; exact SeqAt.EqAt.int_str i t y u _ _ _ _ h
    · rcases keyIs_shape hv with ⟨j, u, rfl, rfl⟩ | ⟨y, u, rfl, rfl⟩
      · rw [key_rl] at h; exact SeqAt.EqAt.str_int x t j u _ _ _ _ h
      · rw [key_rr] at h; exact wpAny_eqBool_str h
  «strs» := fun k x t v h => by
    rcases keyIs_shape h with ⟨i, u, rfl, e⟩ | ⟨y, u, rfl, e⟩
    · exact nomatch e
    · injection e with e1 _
      subst e1
      cases v <;> rfl
end L2
namespace L2
open PySem PySem.Spec PyProof.Rows
inductive V where
  | non | bl (b : Bool) | int (i : Int) | str (x : Str) | byt (b : Array UInt8) | flt (b : UInt64) | ref (a : Addr) | ty (n : String)
  deriving DecidableEq
def RelV : V → Value → Prop
  | .non, u => u = Value.none
  | .bl b, u => u = Value.bool b
  | .int i, u => ∃ t, u = Value.int i t
  | .str x, u => ∃ t, u = Value.str x t
  | .byt b, u => ∃ t, u = Value.bytes b t
  | .flt b, u => ∃ t, u = Value.float b t
  | .ref a, u => u = Value.ref a
  | .ty n, u => u = Value.type n
abbrev Vals : List V → List Value → Prop := Paired RelV
theorem Vals.length {xs : List V} {us : List Value} (r : Vals xs us) : xs.length = us.length := Paired.length r
theorem Vals.get : ∀ {xs : List V} {us : List Value} {i : Nat} {x : V}, Vals xs us → xs[i]? = some x → ∃ u, us[i]? = some u ∧ RelV x u
  | _, _, _, _, .nil, e => by simp at e
  | _, _, 0, _, .cons r _, e => by simp at e; subst e; exact ⟨_, rfl, r⟩
  | _, _, i + 1, x, .cons _ t, e => by
    obtain ⟨u, h1, h2⟩ := Vals.get (i := i) (x := x) t (by simpa using e)
    exact ⟨u, by simpa using h1, h2⟩
theorem Vals.set {x : V} {u : Value} (r : RelV x u) : ∀ {xs : List V} {us : List Value} (i : Nat), Vals xs us → Vals (xs.set i x) (us.set i u)
  | _, _, _, .nil => .nil
  | _, _, 0, .cons _ t => .cons r t
  | _, _, i + 1, .cons q t => .cons q (Vals.set r i t)
theorem Vals.append : ∀ {xs ys : List V} {us ws : List Value}, Vals xs us → Vals ys ws → Vals (xs ++ ys) (us ++ ws)
  | _, _, _, _, .nil, s => s
  | _, _, _, _, .cons r t, s => .cons r (Vals.append t s)
theorem Vals.take : ∀ {xs : List V} {us : List Value} (n : Nat), Vals xs us → Vals (xs.take n) (us.take n)
  | _, _, 0, _ => .nil
  | _, _, _ + 1, .nil => .nil
  | _, _, n + 1, .cons r t => .cons r (Vals.take n t)
theorem Vals.drop : ∀ {xs : List V} {us : List Value} (n : Nat), Vals xs us → Vals (xs.drop n) (us.drop n)
  | _, _, 0, r => r
  | _, _, _ + 1, .nil => .nil
  | _, _, n + 1, .cons _ t => Vals.drop n t
def RelO : Option V → Option Value → Prop
  | some v, some u => RelV v u
  | none, none => True
  | _, _ => False
def KV {κ : Type} : List (κ × V) → List (κ × Value) → Prop := Paired fun (p : κ × V) (q : κ × Value) => p.1 = q.1 ∧ RelV p.2 q.2
def kV : Key → V
  | .inl i => .int i
  | .inr x => .str x
inductive HO where
  /-- a list -/
  | lst (xs : List V)
  /-- a tuple (never changes) -/
  | tup (xs : List V)
  /-- a dict whose keys are ints and texts; one whose keys are tuples of ints and texts (the empty one is both) -/
  | dK (kvs : List (Key × V)) | dT (kvs : List (List Key × V))
  /-- a set of ints: its members, its size -/
  | set (S : Int → Bool) (n : Nat)
  /-- an instance of the class at C, its dict at dx, its attributes -/
  | ins (C dx : Addr) (fs : List (Str × V))
  /-- the dict of the instance at x -/
  | own (x : Addr)
  /-- the dict of an exception -/
  | xd (fs : List (Str × V))
  /-- a bound method, f of x -/
  | met (f x : Addr)
  /-- a range object lo, lo + 1, .. below hi -/
  | rng (lo hi : Int)
  /-- a thing that is known to the object (the script; a dict while a loop walks it): read, never written while it is so -/
  | frz (o : Obj) (u : HO)
  /-- a code object's table -/
  | tbl (ps : Array Value)
  /-- any other thing, by what is true of its one object (a def of one's own: SetO a S n := HO.ext fun h => ..) -/
  | ext (φ : Heap → Prop)
abbrev Hp := Addr → Option HO
def upd (H : Hp) (a : Addr) (o : HO) : Hp := fun b => if b = a then some o else H b
theorem upd_same {H : Hp} {a : Addr} {o : HO} : upd H a o a = some o := by unfold upd; rw [if_pos rfl]
theorem upd_ne {H : Hp} {a b : Addr} {o : HO} (h : b ≠ a) : upd H a o b = H b := by unfold upd; rw [if_neg h]
theorem upd_upd {H : Hp} {a : Addr} {o u : HO} : upd (upd H a o) a u = upd H a u := by
  funext b; unfold upd; split <;> rfl
theorem ne_of {H : Hp} {a b : Addr} {o u : HO} (h : H a = some o) (h' : H b = some u) (d : o ≠ u) : a ≠ b := by
  intro e; subst e; rw [h] at h'; exact d (Option.some.inj h')
theorem ne_of_none {H : Hp} {a b : Addr} {o : HO} (h : H a = some o) (h' : H b = none) : a ≠ b := by
  intro e; subst e; rw [h] at h'; cases h'
section
variable (P : Program) (w : World)
def ObjOk (H : Hp) (h : Heap) (a : Addr) : HO → Prop
  | .lst xs => xs.length ≤ sizeLine ∧ ∃ (its : List Value) (n : Nat), Vals xs its ∧ h.get? a = some { cls := .type "list", data := .seq its.toArray n }
  | .tup xs => xs.length ≤ sizeLine ∧ ∃ its : List Value, Vals xs its ∧ IsTup h a its.toArray
  | .dK kvs => kvs.length ≤ sizeLine ∧ (a == sysModules) = false ∧ ∃ vs, KV kvs vs ∧ h.DictOf (mixKind P w) a vs
  | .dT kvs => kvs.length ≤ sizeLine ∧ (a == sysModules) = false ∧ ∃ xs : List (List Key × Addr × Value),
      Paired (fun (p : List Key × V) (q : List Key × Addr × Value) => p.1 = q.1 ∧ H q.2.1 = some (.tup (p.1.map kV)) ∧ RelV p.2 q.2.2) kvs xs ∧
      ∃ o es ep, h.get? a = some o ∧ o.ExactDict ∧ o.data = .dict es ep ∧ es.toList = xs.map (entryOfKey (tupleKind (mixKind P w))) ∧ (xs.map (·.1)).Nodup
  | .set S n => h.SetOf (intKind P w) a S n
  | .ins C dx fs => H dx = some (.own a) ∧ fs.length ≤ 1000 ∧ dx ≠ a ∧ h.get? a = some (PySem.W.instObj C dx) ∧
      ∃ mA, h.Ns1 dx mA ∧ (∀ f, RelO (fs.lookup f) (mA f)) ∧ PySem.Within mA (fs.map (·.1))
  | .own _ => ∃ o, h.get? a = some o
  | .xd fs => ∃ mA, h.Ns1 a mA ∧ ∀ f, RelO (fs.lookup f) (mA f)
  | .rng lo hi => ∃ t u v, h.get? a = some { cls := .type "range", data := .fields #[.int lo t, .int hi u, .int 1 v] }
  | .frz o u => h.get? a = some o ∧ ObjOk H h a u
  | .tbl ps => h.get? a = some { cls := .none, data := .fields ps }
  | .met f x => h.get? a = some (PySem.W.methodObj (.ref f) (.ref x))
  | .ext φ => φ h ∧ (∃ o, h.get? a = some o) ∧ ∀ h1 h2 : Heap, φ h1 → (∀ o, h1.get? a = some o → h2.get? a = some o) → φ h2
def HOk (H : Hp) (h : Heap) : Prop := ∀ a o, H a = some o → ObjOk P w H h a o
end
section
variable {P : Program} {w : World} {H H' : Hp} {h h' : Heap} {a : Addr} {o : HO}
theorem ObjOk.lt (x : ObjOk P w H h a o) : a < h.objs.size := by
  cases o with
  | lst xs => obtain ⟨_, _, _, _, e⟩ := x; exact Heap.lt_size e
  | tup xs => obtain ⟨_, _, _, p⟩ := x; exact p.lt
  | dK kvs => obtain ⟨_, _, _, _, o, _, _, e, _⟩ := x; exact Heap.lt_size e
  | dT kvs => obtain ⟨_, _, _, _, o, _, _, e, _⟩ := x; exact Heap.lt_size e
  | set S n => obtain ⟨o, _, _, _, e, _⟩ := x; exact Heap.lt_size e
  | ins C dx fs => obtain ⟨_, _, _, e, _⟩ := x; exact Heap.lt_size e
  | own y => obtain ⟨_, e⟩ := x; exact Heap.lt_size e
  | xd fs => obtain ⟨_, ⟨_, _, _, e, _⟩, _⟩ := x; exact Heap.lt_size e
  | rng lo hi => obtain ⟨_, _, _, e⟩ := x; exact Heap.lt_size e
  | frz ob u => obtain ⟨e, _⟩ := x; exact Heap.lt_size e
  | tbl ps => exact Heap.lt_size (show h.get? a = some _ from x)
  | met f y => exact Heap.lt_size (show h.get? a = some _ from x)
  | ext φ => obtain ⟨_, ⟨_, e⟩, _⟩ := x; exact Heap.lt_size e
theorem Paired.mapP {α β : Type} {F G : α → β → Prop} : ∀ {l₁ : List α} {l₂ : List β}, Paired F l₁ l₂ → (∀ a b, F a b → G a b) → Paired G l₁ l₂
  | _, _, .nil, _ => .nil
  | _, _, .cons r t, f => .cons (f _ _ r) (Paired.mapP t f)
theorem ObjOk.stay (x : ObjOk P w H h a o) (k : ∀ b u, (b = a ∨ H b = some (.own a)) → h.get? b = some u → h'.get? b = some u)
    (ho : ∀ b, H b = some (.own a) → H' b = some (.own a)) (ht : ∀ b xs, H b = some (.tup xs) → H' b = some (.tup xs)) : ObjOk P w H' h' a o := by
  induction o with
  | lst xs => obtain ⟨z, its, n, r, e⟩ := x; exact ⟨z, its, n, r, k _ _ (.inl rfl) e⟩
  | tup xs => obtain ⟨z, its, r, ob, e, c⟩ := x; exact ⟨z, its, r, ob, k _ _ (.inl rfl) e, c⟩
  | dK kvs => obtain ⟨z, y, vs, r, ob, es, ep, e, c⟩ := x; exact ⟨z, y, vs, r, ob, es, ep, k _ _ (.inl rfl) e, c⟩
  | dT kvs =>
    obtain ⟨z, y, xs, r, ob, es, ep, e, c⟩ := x
    exact ⟨z, y, xs, Paired.mapP r fun p q z => ⟨z.1, ht _ _ z.2.1, z.2.2⟩, ob, es, ep, k _ _ (.inl rfl) e, c⟩
  | set S n => obtain ⟨ob, es, ep, t, e, c⟩ := x; exact ⟨ob, es, ep, t, k _ _ (.inl rfl) e, c⟩
  | ins C dx fs =>
    obtain ⟨d, z, ne, e, mA, ⟨od, es, ep, e2, c⟩, r⟩ := x
    exact ⟨ho _ d, z, ne, k _ _ (.inl rfl) e, mA, ⟨od, es, ep, k _ _ (.inr d) e2, c⟩, r⟩
  | own y => obtain ⟨ob, e⟩ := x; exact ⟨ob, k _ _ (.inl rfl) e⟩
  | xd fs => obtain ⟨mA, ⟨od, es, ep, e, c⟩, r⟩ := x; exact ⟨mA, ⟨od, es, ep, k _ _ (.inl rfl) e, c⟩, r⟩
  | rng lo hi => obtain ⟨t, u, v, e⟩ := x; exact ⟨t, u, v, k _ _ (.inl rfl) e⟩
  | frz ob u ih => obtain ⟨e, q⟩ := x; exact ⟨k _ _ (.inl rfl) e, ih q⟩
  | tbl ps =>
    have e : h.get? a = some { cls := .none, data := .fields ps } := x
    show h'.get? a = some { cls := .none, data := .fields ps }
    exact k a _ (.inl rfl) e
  | met f y =>
    have e : h.get? a = some (PySem.W.methodObj (.ref f) (.ref y)) := x
    show h'.get? a = some (PySem.W.methodObj (.ref f) (.ref y))
    exact k a _ (.inl rfl) e
  | ext φ => obtain ⟨p, ⟨o, e⟩, st⟩ := x; exact ⟨st _ _ p fun o q => k _ _ (.inl rfl) q, ⟨o, k _ _ (.inl rfl) e⟩, st⟩
theorem HOk.lt (x : HOk P w H h) (e : H a = some o) : a < h.objs.size := (x a o e).lt
theorem HOk.fresh (x : HOk P w H h) (e : h.objs.size ≤ a) : H a = none := by
  cases q : H a with
  | none => rfl
  | some u => exact absurd (Nat.lt_of_lt_of_le (x.lt q) e) (Nat.lt_irrefl _)
theorem HOk.kept (x : HOk P w H h) (k : ∀ b u, h.get? b = some u → h'.get? b = some u) : HOk P w H h' := fun a o e =>
  (x a o e).stay (fun b u _ q => k b u q) (fun _ q => q) fun _ _ q => q
theorem HOk.laid (x : HOk P w H h) (k : ∀ b u, h.get? b = some u → h'.get? b = some u) (hp : h.objs.size ≤ a) (new : ObjOk P w (upd H a o) h' a o) : HOk P w (upd H a o) h' := fun b u e => by
  have hn := x.fresh hp
  by_cases hb : b = a
  · subst hb; rw [upd_same] at e; cases e; exact new
  · rw [upd_ne hb] at e
    exact (x b u e).stay (fun c v _ q => k c v q) (fun c q => by rw [upd_ne (ne_of_none q hn)]; exact q) fun c xs q => by rw [upd_ne (ne_of_none q hn)]; exact q
end
def Rd (H : Hp) (a : Addr) (u : HO) : Prop := H a = some u ∨ ∃ o, H a = some (.frz o u)
theorem Rd.of {H : Hp} {a : Addr} {u : HO} (h : H a = some u) : Rd H a u := .inl h
theorem Rd.ok {P : Program} {w : World} {H : Hp} {h : Heap} {a : Addr} {u : HO} (r : Rd H a u) (x : HOk P w H h) : ObjOk P w H h a u := by
  rcases r with r | ⟨o, r⟩
  · exact x a u r
  · obtain ⟨_, q⟩ := x a _ r
    exact q
def Mut : Option HO → Prop
  | some (.lst _) => True
  | some (.dK _) => True
  | some (.dT _) => True
  | some (.set _ _) => True
  | some (.ins _ _ _) => True
  | some (.ext _) => True
  | _ => False
section
variable {P : Program} {w : World} {H : Hp} {h h' : Heap} {x e : Addr} {o' : HO}
theorem HOk.write (ok : HOk P w H h) (mu : Mut (H x)) (he : e = x ∨ H e = some (.own x)) (k : ∀ b u, b ≠ e → h.get? b = some u → h'.get? b = some u) (heo : ∃ u, h'.get? e = some u)
    (new : ObjOk P w (upd H x o') h' x o') : HOk P w (upd H x o') h' := fun b u q => by
  have nown : ∀ c y, H c = some (.own y) → c ≠ x := fun c y r z => by subst z; rw [r] at mu; exact mu
  have ntup : ∀ c xs, H c = some (.tup xs) → c ≠ x := fun c xs r z => by subst z; rw [r] at mu; exact mu
  by_cases hb : b = x
  · subst hb; rw [upd_same] at q; cases q; exact new
  · rw [upd_ne hb] at q
    by_cases hbe : b = e
    · have q' : H b = some (.own x) := by
        rcases he with z | z
        · exact absurd (hbe.trans z) hb
        · rw [hbe]; exact z
      rw [q] at q'; cases q'
      obtain ⟨v, hv⟩ := heo
      exact ⟨v, by rw [hbe]; exact hv⟩
    · refine (ok b u q).stay (fun c v hc r => k c v ?_ r) (fun c r => by rw [upd_ne (nown c b r)]; exact r) fun c xs r => by rw [upd_ne (ntup c xs r)]; exact r
      rcases hc with rfl | hc
      · exact hbe
      · rintro rfl
        rcases he with z | z
        · exact nown c b hc z
        · rw [hc] at z; cases z; exact hb rfl
end
structure Un (fs ex : List Addr) (H H' : Hp) (h h' : Heap) : Prop where
  keep : ∀ b o, h.get? b = some o → H b = none → b ∉ fs → b ∉ ex → h'.get? b = some o
  slot : ∀ b o, h.get? b = some o → H b = none → b ∈ fs → b ∉ ex → ∃ sl, h'.get? b = some { o with slots := sl }
  free : ∀ b o, h.get? b = some o → H b = none → b ∉ ex → H' b = none
  there : ∀ b o, h.get? b = some o → b ∉ ex → ∃ o', h'.get? b = some o'
  tups : ∀ b xs, H b = some (.tup xs) → H' b = some (.tup xs)
  frzs : ∀ b o u, H b = some (.frz o u) → H' b = some (.frz o u)
  tbls : ∀ b ps, H b = some (.tbl ps) → ∃ more, H' b = some (.tbl (ps ++ more))
section
variable {fs fs' ex ex' : List Addr} {H H1 H2 : Hp} {h h1 h2 h' : Heap} {a x e : Addr} {o : HO}
theorem Un.any (u : Un fs ex H H1 h h1) {b : Addr} {ob : Obj} (q : h.get? b = some ob) (n : H b = none) (hx : b ∉ ex) : ∃ sl, h1.get? b = some { ob with slots := sl } := by
  by_cases hb : b ∈ fs
  · exact u.slot b ob q n hb hx
  · exact ⟨ob.slots, u.keep b ob q n hb hx⟩
theorem Un.trans (a : Un fs ex H H1 h h1) (b : Un fs ex H1 H2 h1 h2) : Un fs ex H H2 h h2 where
  keep := fun c ob q n hc hx => b.keep c ob (a.keep c ob q n hc hx) (a.free c ob q n hx) hc hx
  slot := fun c ob q n hc hx => by
    obtain ⟨sl, e1⟩ := a.slot c ob q n hc hx
    obtain ⟨sl', e2⟩ := b.slot c _ e1 (a.free c ob q n hx) hc hx
    exact ⟨sl', e2⟩
  free := fun c ob q n hx => by
    obtain ⟨o', e1⟩ := a.there c ob q hx
    exact b.free c o' e1 (a.free c ob q n hx) hx
  there := fun c ob q hx => by
    obtain ⟨o', e1⟩ := a.there c ob q hx
    exact b.there c o' e1 hx
  tups := fun c xs q => b.tups c xs (a.tups c xs q)
  frzs := fun c ob xs q => b.frzs c ob xs (a.frzs c ob xs q)
  tbls := fun c ps q => by
    obtain ⟨m1, e1⟩ := a.tbls c ps q
    obtain ⟨m2, e2⟩ := b.tbls c _ e1
    exact ⟨m1 ++ m2, by rw [e2, Array.append_assoc]⟩
theorem Un.kept (k : ∀ b u, h.get? b = some u → h'.get? b = some u) : Un fs ex H H h h' :=
  ⟨fun b ob q _ _ _ => k b ob q, fun b ob q _ _ _ => ⟨ob.slots, k b ob q⟩, fun _ _ _ n _ => n, fun b ob q _ => ⟨ob, k b ob q⟩, fun _ _ q => q, fun _ _ _ q => q, fun _ ps q => ⟨#[], by rw [q]; simp⟩⟩
theorem Un.refl : Un fs ex H H h h := Un.kept fun _ _ q => q
theorem Un.laid (k : ∀ b u, h.get? b = some u → h'.get? b = some u) (hp : h.objs.size ≤ a) (hn : H a = none) : Un fs ex H (upd H a o) h h' where
  keep := fun b u q _ _ _ => k b u q
  slot := fun b u q _ _ _ => ⟨u.slots, k b u q⟩
  free := fun b u q n _ => by rw [upd_ne (Nat.ne_of_lt (Nat.lt_of_lt_of_le (Heap.lt_size q) hp))]; exact n
  there := fun b u q _ => ⟨u, k b u q⟩
  tups := fun b xs q => by rw [upd_ne (ne_of_none q hn)]; exact q
  frzs := fun b u xs q => by rw [upd_ne (ne_of_none q hn)]; exact q
  tbls := fun b ps q => ⟨#[], by rw [upd_ne (ne_of_none q hn), q]; simp⟩
theorem Un.write (mu : Mut (H x)) (he : e = x ∨ H e = some (.own x)) (k : ∀ b u, b ≠ e → h.get? b = some u → h'.get? b = some u) (heo : ∃ u, h'.get? e = some u) : Un fs ex H (upd H x o) h h' := by
  have hx : ∀ b, H b = none → b ≠ x := fun b n z => by subst z; rw [n] at mu; exact mu
  have hb : ∀ b, H b = none → b ≠ e := fun b n z => by
    subst z
    rcases he with r | r
    · exact hx b n r
    · rw [n] at r; cases r
  have hm : ∀ b u, H b = some u → ¬ Mut (some u) → b ≠ x := fun b u q nm z => by subst z; rw [q] at mu; exact nm mu
  refine ⟨fun b u q n _ _ => k b u (hb b n) q, fun b u q n _ _ => ⟨u.slots, k b u (hb b n) q⟩, fun b u q n _ => by rw [upd_ne (hx b n)]; exact n, fun b u q _ => ?_,
    fun b xs q => by rw [upd_ne (hm b _ q fun z => z)]; exact q, fun b u xs q => by rw [upd_ne (hm b _ q fun z => z)]; exact q, fun b ps q => ⟨#[], by rw [upd_ne (hm b _ q fun z => z), q]; simp⟩⟩
  by_cases hbe : b = e
  · subst hbe; exact heo
  · exact ⟨u, k b u hbe q⟩
theorem Un.mono (u : Un fs ex H H1 h h1) (hs : ∀ b ∈ fs, b ∈ fs') (hx : ∀ b ∈ ex, b ∈ ex') : Un fs' ex' H H1 h h1 :=
  ⟨fun b ob q n hb he => u.keep b ob q n (fun z => hb (hs b z)) fun z => he (hx b z), fun _ _ q n _ he => u.any q n fun z => he (hx _ z), fun b ob q n he => u.free b ob q n fun z => he (hx b z), fun b ob q he => u.there b ob q fun z => he (hx b z), u.tups, u.frzs, u.tbls⟩
end
def trk (h : Heap) (H : Hp) : List Addr := (List.range h.objs.size).filter fun a => (H a).isSome
def hidT (h : Heap) (H : Hp) : Heap := PySem.W.hideAll h (trk h H)
theorem hidT_size (h : Heap) (H : Hp) : (hidT h H).objs.size = h.objs.size := PySem.W.hideAll_size _ _
theorem hidT_get {h : Heap} {H : Hp} {b : Addr} {o : Obj} (e : h.get? b = some o) (n : H b = none) : (hidT h H).get? b = some o :=
  PySem.W.hideAll_get _ e fun hm => by
    have q : (H b).isSome = true := (List.mem_filter.mp hm).2
    rw [n] at q; simp at q
theorem of_hidT {h : Heap} {H : Hp} {b : Addr} {o : Obj} (e : (hidT h H).get? b = some o) : h.get? b = some o ∧ H b = none := by
  have e' : h.get? b = some o := PySem.W.of_hideAll (trk h H) e
  refine ⟨e', ?_⟩
  cases q : H b with
  | none => rfl
  | some x =>
    have hm : b ∈ trk h H := List.mem_filter.mpr ⟨List.mem_range.mpr (Heap.lt_size e'), by simp [q]⟩
    have z : (hidT h H).get? b = none := PySem.W.hideAll_none (trk h H) hm
    rw [z] at e; cases e
def allNews (g h : Heap) (L : Addr) : List (Addr × Obj) := (List.range h.objs.size).filterMap fun a => if a = L ∨ (g.get? a).isSome = true then none else (h.get? a).map fun o => (a, o)
def rest (g h : Heap) (L d : Addr) : List (Addr × Obj) := (allNews g h L).filter fun p => decide (p.1 ≠ d)
end L2
namespace L2
open PySem PySem.Spec PyProof.Rows
structure Mod (K : PySem.W.Frag) (mg : Str → Option Value) (base : Heap) : Prop where
  kin : K.In base
  glob : base.Ns mainGlobals mg
  blt : ∃ mb, base.Ns builtinsNs mb ∧ ∀ x : Str, x ≠ "__name__" → mb x = bootBuiltins x
  nolimit : base.NoLimit
structure Cx where
  prog : Program
  w : World
  K : PySem.W.Frag
  mg : Str → Option Value
  base : Heap
  A : Around
  N : List Str
  s₀ : Shared
  H₀ : Hp
  env : Env
  outer : List Env
  stack : List Env
  ex : List Addr
  fn : Str → Bool
  calm : Bool
  pn : List (Addr × Obj)
  xe : Value → Shared → Prop
def frs (l : List Env) : List Addr := l.filterMap (·.frame)
abbrev Cx.fs (X : Cx) : List Addr := frs X.outer
def Vis (sc : Scope) (x : Str) : Prop := sc.names.lookup x = some .local ∨ sc.names.lookup x = some .cell ∨ sc.names.lookup x = some .free
def Loc (sc : Scope) (x : Str) : Prop := sc.names.lookup x = some .local ∨ sc.names.lookup x = some .cell
def Look (env : Env) (h : Heap) (m : Str → Option Value) (x : Str) (u : Value) : Prop :=
  (env.kindOf x = some .local ∧ m x = some u) ∨ ((env.kindOf x = some .cell ∨ env.kindOf x = some .free) ∧ ∃ c, env.cells.lookup x = some c ∧ h.IsCell c (some u))
structure Cx.Ok (X : Cx) : Prop where
  mod : Mod X.K X.mg X.base
  kind : X.env.scope.kind = .function
  glob : X.env.globals = mainGlobals
  blt : X.env.builtins = builtinsNs
  above : X.s₀.heap.objs.size ≤ X.env.locals
  inj : ∀ x y c, X.env.cells.lookup x = some c → X.env.cells.lookup y = some c → x = y
  has : ∀ x, (X.env.kindOf x = some .cell ∨ X.env.kindOf x = some .free) → ∃ c, X.env.cells.lookup x = some c
  cab : ∀ x c, X.fn x = true → X.env.cells.lookup x = some c → X.s₀.heap.objs.size ≤ c
  hd : X.calm = true → X.A.handled = none
  frames : X.A.frames = some X.stack
  stk : X.stack = X.outer ∨ (X.stack = X.env :: X.outer ∧ X.env.frame = some X.env.locals)
  exf : ∀ b ∈ X.ex, b ≠ X.env.locals ∧ ∀ x c, X.env.cells.lookup x = some c → c ≠ b
  bs : ∀ b o, X.base.get? b = some o → X.s₀.heap.get? b = some o ∧ X.H₀ b = none
  bsz : X.base.objs.size ≤ X.s₀.heap.objs.size
  noex : ∀ b o, X.base.get? b = some o → b ∉ X.ex
  exfs : ∀ b ∈ X.ex, b ∉ X.fs
  funs : X.s₀.heap.FunFrames X.base X.outer
  frf : ∀ b ∈ X.fs, X.H₀ b = none
structure Inv (X : Cx) (pins : List (Addr × Obj)) (σ : List (Option V)) (H : Hp) (s : Shared) : Prop where
  ok : X.Ok
  os : s.os = X.s₀.os
  bare : AllBare s.gens
  base : Un X.fs X.ex X.H₀ H X.s₀.heap s.heap
  loc : ∃ m, s.heap.Ns X.env.locals m ∧ ∀ (i : Nat) (x : Str) (v : V), X.N[i]? = some x → σ[i]? = some (some v) → Vis X.env.scope x → ∃ u, RelV v u ∧ Look X.env s.heap m x u
  cell : ∀ x c, X.env.cells.lookup x = some c → ∃ v, s.heap.IsCell c v
  free : H X.env.locals = none
  freeC : ∀ x c, X.env.cells.lookup x = some c → H c = none
  pin : ∀ p ∈ X.pn ++ pins, s.heap.get? p.1 = some p.2 ∧ H p.1 = none ∧ p.1 ≠ X.env.locals ∧ p.1 ∉ X.fs ∧ ∀ v, p.2.data ≠ .cell v
  hok : HOk X.prog X.w H s.heap
  len : σ.length = X.N.length
section
variable {X : Cx} {pins : List (Addr × Obj)} {σ : List (Option V)} {H H' : Hp} {s : Shared} {h' : Heap}
theorem Cx.Ok.nofr (ok : X.Ok) {b : Addr} {o : Obj} (e : X.base.get? b = some o) : b ∉ X.fs := fun hb => by
  have := (ok.funs.mem hb).1
  rw [e] at this; cases this
theorem Inv.bs (I : Inv X pins σ H s) : ∀ b o, X.base.get? b = some o → s.heap.get? b = some o ∧ H b = none := fun b o e =>
  ⟨I.base.keep b o (I.ok.bs b o e).1 (I.ok.bs b o e).2 (I.ok.nofr e) (I.ok.noex b o e), I.base.free b o (I.ok.bs b o e).1 (I.ok.bs b o e).2 (I.ok.noex b o e)⟩
theorem Inv.bk (I : Inv X pins σ H s) : ∀ b o, X.base.get? b = some o → s.heap.get? b = some o := fun b o e => (I.bs b o e).1
theorem Inv.mod (I : Inv X pins σ H s) : Mod X.K X.mg X.base := I.ok.mod
theorem Inv.kIn (I : Inv X pins σ H s) : X.K.In s.heap := I.ok.mod.kin.keeps I.bk
theorem Inv.nolimit (I : Inv X pins σ H s) : s.heap.NoLimit := I.ok.mod.nolimit.keeps I.bk
theorem Inv.fr (I : Inv X pins σ H s) : ∃ m, Fr X.base X.env.locals s.heap m :=
  let ⟨m, hn, _⟩ := I.loc
  ⟨m, hn, I.bk, Nat.le_trans I.ok.bsz I.ok.above⟩
theorem Inv.lt (I : Inv X pins σ H s) : X.env.locals < s.heap.objs.size := let ⟨_, hn, _⟩ := I.loc; hn.lt
theorem Inv.sz (I : Inv X pins σ H s) : X.s₀.heap.objs.size ≤ s.heap.objs.size := Nat.le_trans I.ok.above (Nat.le_of_lt I.lt)
theorem Inv.nofs (I : Inv X pins σ H s) {a : Addr} (h : s.heap.objs.size ≤ a) : a ∉ X.fs := fun hb => by
  obtain ⟨_, o, ho, _⟩ := I.ok.funs.mem hb
  exact absurd (Nat.lt_of_lt_of_le (Heap.lt_size ho) (Nat.le_trans I.sz h)) (Nat.lt_irrefl _)
theorem Inv.cne (I : Inv X pins σ H s) : ∀ x c, X.env.cells.lookup x = some c → c ≠ X.env.locals := fun x c e z => by
  obtain ⟨v, o, ho, hd⟩ := I.cell x c e
  obtain ⟨m, ⟨o', es, ep, ho', hd', _⟩, _⟩ := I.loc
  rw [z, ho'] at ho; cases ho; rw [hd'] at hd; cases hd
theorem Inv.funs (I : Inv X pins σ H s) : s.heap.FunFrames X.base X.outer := by
  have all : ∀ (l : List Env), (∀ b ∈ frs l, b ∈ X.fs) → X.s₀.heap.FunFrames X.base l → s.heap.FunFrames X.base l := by
    intro l
    induction l with
    | nil => intro _ _; trivial
    | cons env r ih =>
      intro hs hl
      obtain ⟨hk, ⟨L, o, hf, hn, ho, hd⟩, hr⟩ := hl
      have hL : L ∈ X.fs := hs L (by unfold frs; rw [List.filterMap_cons, hf]; exact List.mem_cons_self)
      obtain ⟨sl, e⟩ := I.base.slot L o ho (I.ok.frf L hL) hL fun z => I.ok.exfs L z hL
      exact ⟨hk, ⟨L, _, hf, hn, e, hd⟩, ih (fun b hb => hs b (by unfold frs; rw [List.filterMap_cons, hf]; exact List.mem_cons_of_mem _ hb)) hr⟩
  exact all X.outer (fun _ hb => hb) I.ok.funs
theorem Inv.stack (I : Inv X pins σ H s) : s.heap.FunFrames X.base X.stack := by
  rcases I.ok.stk with e | ⟨e, hf⟩
  · rw [e]; exact I.funs
  · rw [e]
    obtain ⟨m, hn, _⟩ := I.loc
    refine .cons (by rw [I.ok.kind]; decide) hf hn ?_ I.funs
    exact Heap.get?_none_of_le (Nat.le_trans I.ok.bsz I.ok.above)
theorem Inv.stkSub (I : Inv X pins σ H s) : ∀ b ∈ frs X.stack, b ∈ X.env.locals :: X.fs := fun b hb => by
  rcases I.ok.stk with e | ⟨e, hf⟩
  · rw [e] at hb; exact List.mem_cons_of_mem _ hb
  · rw [e] at hb
    unfold frs at hb
    rw [List.filterMap_cons, hf] at hb
    exact hb
theorem Inv.stkFree (I : Inv X pins σ H s) : ∀ b ∈ frs X.stack, H b = none := fun b hb => by
  rcases List.mem_cons.mp (I.stkSub b hb) with e | hb
  · rw [e]; exact I.free
  · obtain ⟨_, o, ho, _⟩ := I.ok.funs.mem hb
    exact I.base.free b o ho (I.ok.frf b hb) fun z => I.ok.exfs b z hb
theorem Inv.step {g' : Array GenState} {t' : Nat} {d' : Drawn} {ch : List Addr} (I : Inv X pins σ H s)
    (hch : ∀ b ∈ ch, (b ∈ X.ex ∨ X.s₀.heap.objs.size ≤ b) ∧ b ≠ X.env.locals ∧ (∀ x c, X.env.cells.lookup x = some c → c ≠ b) ∧ ∀ p ∈ X.pn ++ pins, p.1 ≠ b)
    (keep : ∀ b o, b ≠ X.env.locals → b ∉ X.fs → b ∉ ch → s.heap.get? b = some o → H b = none → h'.get? b = some o)
    (slot : ∀ b o, b ≠ X.env.locals → b ∈ X.fs → b ∉ ch → s.heap.get? b = some o → H b = none → ∃ sl, h'.get? b = some { o with slots := sl }) (free : ∀ b o, b ∉ ch → s.heap.get? b = some o → H b = none → H' b = none)
    (there : ∀ b o, b ∉ ch → s.heap.get? b = some o → ∃ o', h'.get? b = some o')
    (tups : ∀ b xs, H b = some (.tup xs) → H' b = some (.tup xs)) (frzs : ∀ b o u, H b = some (.frz o u) → H' b = some (.frz o u)) (tbls : ∀ b ps, H b = some (.tbl ps) → ∃ more, H' b = some (.tbl (ps ++ more)))
    (ns : ∀ m, s.heap.Ns X.env.locals m → h'.Ns X.env.locals m) (hok : HOk X.prog X.w H' h') (hg : AllBare g') :
    Inv X pins σ H' { s with heap := h', gens := g', drawn := d', toks := t' } := by
  have neL : ∀ b o, X.s₀.heap.get? b = some o → b ≠ X.env.locals := fun b o e => Nat.ne_of_lt (Nat.lt_of_lt_of_le (Heap.lt_size e) I.ok.above)
  have neC : ∀ b o, X.s₀.heap.get? b = some o → b ∉ X.ex → b ∉ ch := fun b o e hx hb => by
    rcases (hch b hb).1 with z | z
    · exact hx z
    · exact absurd (Nat.lt_of_lt_of_le (Heap.lt_size e) z) (Nat.lt_irrefl _)
  have cellK : ∀ x c, X.env.cells.lookup x = some c → ∀ v, s.heap.IsCell c v → h'.IsCell c v := fun x c e v ⟨o, ho, hd⟩ => by
    have nch : c ∉ ch := fun z => (hch c z).2.2.1 x c e rfl
    by_cases hc : c ∈ X.fs
    · obtain ⟨sl, q⟩ := slot c o (I.cne x c e) hc nch ho (I.freeC x c e)
      exact ⟨_, q, hd⟩
    · exact ⟨o, keep c o (I.cne x c e) hc nch ho (I.freeC x c e), hd⟩
  refine ⟨I.ok, I.os, hg, ⟨fun b o e n hb hx => ?_, fun b o e n hb hx => ?_, fun b o e n hx => ?_, fun b o e hx => ?_, fun b xs e => tups b xs (I.base.tups b xs e), fun b o xs e => frzs b o xs (I.base.frzs b o xs e), fun b ps e => ?_⟩, ?_, fun x c e => ?_, ?_, fun x c e => ?_, fun p hp => ?_, hok, I.len⟩
  · exact keep b o (neL b o e) hb (neC b o e hx) (I.base.keep b o e n hb hx) (I.base.free b o e n hx)
  · obtain ⟨sl, e1⟩ := I.base.slot b o e n hb hx
    obtain ⟨sl', e2⟩ := slot b _ (neL b o e) hb (neC b o e hx) e1 (I.base.free b o e n hx)
    exact ⟨sl', e2⟩
  · obtain ⟨o', e1⟩ := I.base.there b o e hx
    exact free b o' (neC b o e hx) e1 (I.base.free b o e n hx)
  · obtain ⟨o', e1⟩ := I.base.there b o e hx
    exact there b o' (neC b o e hx) e1
  · obtain ⟨m1, e1⟩ := I.base.tbls b ps e
    obtain ⟨m2, e2⟩ := tbls b _ e1
    exact ⟨m1 ++ m2, by rw [e2, Array.append_assoc]⟩
  · obtain ⟨m, hn, hl⟩ := I.loc
    refine ⟨m, ns m hn, fun i x v e1 e2 e3 => ?_⟩
    obtain ⟨u, r, l⟩ := hl i x v e1 e2 e3
    refine ⟨u, r, ?_⟩
    rcases l with l | ⟨k, c, e, z⟩
    · exact .inl l
    · exact .inr ⟨k, c, e, cellK x c e _ z⟩
  · obtain ⟨v, z⟩ := I.cell x c e
    exact ⟨v, cellK x c e v z⟩
  · obtain ⟨m, ⟨o, _, _, ho, _⟩, _⟩ := I.loc
    exact free _ o (fun z => (hch _ z).2.1 rfl) ho I.free
  · obtain ⟨v, o, ho, hd⟩ := I.cell x c e
    exact free c o (fun z => (hch c z).2.2.1 x c e rfl) ho (I.freeC x c e)
  · obtain ⟨e, n, ne, nf, d⟩ := I.pin p hp
    have nch : p.1 ∉ ch := fun z => (hch p.1 z).2.2.2 p hp rfl
    exact ⟨keep p.1 p.2 ne nf nch e n, free p.1 p.2 nch e n, ne, nf, d⟩
theorem Inv.un {t' : Nat} (I : Inv X pins σ H s) (u : Un X.fs [] H H' s.heap h') (hok : HOk X.prog X.w H' h') : Inv X pins σ H' { s with heap := h', toks := t' } := by
  obtain ⟨m, ⟨o, es, ep, ho, r⟩, _⟩ := id I.loc
  obtain ⟨sl, hL⟩ := u.any ho I.free (by simp)
  exact I.step (g' := s.gens) (d' := s.drawn) (ch := []) (fun _ z => nomatch z) (fun b o _ hb _ e n => u.keep b o e n hb (by simp)) (fun b o _ hb _ e n => u.slot b o e n hb (by simp)) (fun b o _ e n => u.free b o e n (by simp)) (fun b o _ e => u.there b o e (by simp)) u.tups u.frzs u.tbls (fun m' hm => by
    obtain ⟨o', es', ep', ho', r'⟩ := hm
    rw [ho] at ho'; cases ho'
    exact ⟨_, es', ep', hL, r'⟩) hok I.bare
theorem Inv.call {g' : Array GenState} {t' : Nat} {d' : Drawn} {ch : List Addr} (I : Inv X pins σ H s) (u : Un (frs X.stack) ch H H' s.heap h') (hok : HOk X.prog X.w H' h') (hg : AllBare g')
    (hch : ∀ b ∈ ch, (b ∈ X.ex ∨ X.s₀.heap.objs.size ≤ b) ∧ b ≠ X.env.locals ∧ (∀ x c, X.env.cells.lookup x = some c → c ≠ b) ∧ ∀ p ∈ X.pn ++ pins, p.1 ≠ b) :
    Inv X pins σ H' { s with heap := h', gens := g', drawn := d', toks := t' } := by
  obtain ⟨m, ⟨o, es, ep, ho, r⟩, _⟩ := id I.loc
  obtain ⟨sl, hL⟩ := u.any ho I.free fun z => (hch _ z).2.1 rfl
  exact I.step (ch := ch) hch (fun b o hL hb hc e n => u.keep b o e n (fun z => (List.mem_cons.mp (I.stkSub b z)).elim hL hb) hc) (fun b o _ _ hc e n => u.any e n hc) (fun b o hc e n => u.free b o e n hc) (fun b o hc e => u.there b o e hc) u.tups u.frzs u.tbls (fun m' hm => by
    obtain ⟨o', es', ep', ho', r'⟩ := hm
    rw [ho] at ho'; cases ho'
    exact ⟨_, es', ep', hL, r'⟩) hok hg
theorem Inv.turned {t' : Nat} {it : Addr} (I : Inv X pins σ H s) (k : ∀ b o, b ≠ it → s.heap.get? b = some o → h'.get? b = some o) (hn : H it = none) (hL : it ≠ X.env.locals)
    (h1 : it ∈ X.ex ∨ X.s₀.heap.objs.size ≤ it) (h2 : ∀ x c, X.env.cells.lookup x = some c → c ≠ it) (h3 : ∀ p ∈ X.pn ++ pins, p.1 ≠ it) : Inv X pins σ H { s with heap := h', toks := t' } := by
  have nit : ∀ b u, H b = some u → b ≠ it := fun b u e z => by rw [z, hn] at e; cases e
  refine I.step (g' := s.gens) (d' := s.drawn) (ch := [it]) (fun b hb => ?_) (fun b o _ _ hc e _ => k b o (fun z => hc (by simp [z])) e) (fun b o _ _ hc e _ => ⟨o.slots, k b o (fun z => hc (by simp [z])) e⟩) (fun _ _ _ _ n => n)
    (fun b o hc e => ⟨o, k b o (fun z => hc (by simp [z])) e⟩) (fun _ _ e => e) (fun _ _ _ e => e) (fun b ps e => ⟨#[], by rw [e]; simp⟩) (fun m hm => ?_) (fun b u e => ?_) I.bare
  · have e : b = it := by simpa using hb
    subst e
    exact ⟨h1, hL, h2, h3⟩
  · obtain ⟨o, es, ep, ho, r⟩ := hm
    exact ⟨o, es, ep, k _ o (Ne.symm hL) ho, r⟩
  · refine (I.hok b u e).stay (fun c v hc q => k c v ?_ q) (fun _ q => q) fun _ _ q => q
    rcases hc with z | z
    · rw [z]; exact nit b u e
    · exact nit c _ z
theorem Inv.tok (I : Inv X pins σ H s) (t : Nat) : Inv X pins σ H { s with toks := t } := I.un (h' := s.heap) (t' := t) Un.refl I.hok
theorem Inv.kept {t' : Nat} (I : Inv X pins σ H s) (k : ∀ b u, s.heap.get? b = some u → h'.get? b = some u) : Inv X pins σ H { s with heap := h', toks := t' } := I.un (Un.kept k) (I.hok.kept k)
theorem Inv.laid {a : Addr} {o : HO} {t' : Nat} (I : Inv X pins σ H s) (k : ∀ b u, s.heap.get? b = some u → h'.get? b = some u) (hp : s.heap.objs.size ≤ a) (new : ObjOk X.prog X.w (upd H a o) h' a o) :
    Inv X pins σ (upd H a o) { s with heap := h', toks := t' } := I.un (Un.laid k hp (I.hok.fresh hp)) (I.hok.laid k hp new)
theorem Inv.write {x e : Addr} {o : HO} {t' : Nat} (I : Inv X pins σ H s) (mu : Mut (H x)) (he : e = x ∨ H e = some (.own x)) (k : ∀ b u, b ≠ e → s.heap.get? b = some u → h'.get? b = some u) (heo : ∃ u, h'.get? e = some u)
    (new : ObjOk X.prog X.w (upd H x o) h' x o) : Inv X pins σ (upd H x o) { s with heap := h', toks := t' } := I.un (Un.write mu he k heo) (I.hok.write mu he k heo new)
theorem Inv.weak {σ' : List (Option V)} (I : Inv X pins σ H s) (hl : σ'.length = σ.length) (w : ∀ (i : Nat) v, σ'[i]? = some (some v) → σ[i]? = some (some v)) : Inv X pins σ' H s :=
  ⟨I.ok, I.os, I.bare, I.base, let ⟨m, hn, hl'⟩ := I.loc; ⟨m, hn, fun i x v e1 e2 e3 => hl' i x v e1 (w i v e2) e3⟩, I.cell, I.free, I.freeC, I.pin, I.hok, hl.trans I.len⟩
theorem Inv.pins_of {pins' : List (Addr × Obj)} (I : Inv X pins σ H s) (h : ∀ p ∈ pins', s.heap.get? p.1 = some p.2 ∧ H p.1 = none ∧ p.1 ≠ X.env.locals ∧ p.1 ∉ X.fs ∧ ∀ v, p.2.data ≠ .cell v) : Inv X pins' σ H s :=
  ⟨I.ok, I.os, I.bare, I.base, I.loc, I.cell, I.free, I.freeC, fun p hp => (List.mem_append.mp hp).elim (fun z => I.pin p (List.mem_append_left _ z)) (h p), I.hok, I.len⟩
theorem nodup_ix {N : List Str} (hN : N.Nodup) {i j : Nat} {x : Str} (a : N[i]? = some x) (b : N[j]? = some x) : i = j := by
  obtain ⟨h1, e1⟩ := List.getElem?_eq_some_iff.mp a
  obtain ⟨h2, e2⟩ := List.getElem?_eq_some_iff.mp b
  exact (List.getElem_inj hN).mp (e1.trans e2.symm)
theorem store_ok2 {M : Model} {A : Around} {E : Value → Shared → Prop} {i : Nat} {x : Str} {v : V} {u : Value} {Q : Unit → Shared → Prop} (I : Inv X pins σ H s) (hN : X.N.Nodup) (hi : X.N[i]? = some x) (hx : Loc X.env.scope x) (r : RelV v u)
    (h : ∀ s', Inv X pins (σ.set i (some v)) H s' → (∃ a, Heap.SameBut a s.heap s'.heap ∧ (a = X.env.locals ∨ X.env.cells.lookup x = some a)) → Q () s') (hf : X.fn x = true ∨ X.env.scope.names.lookup x = some .local := by first | exact .inl rfl | exact .inr rfl | assumption) : wpAny M A (storeName X.env x u) Q E s := by
  obtain ⟨m, hn, hl⟩ := id I.loc
  have hcls : (X.env.scope.kind == .class || (X.env.scope.kind == .module && X.env.locals != X.env.globals)) = false := by rw [I.ok.kind]; rfl
  have hiσ : i < σ.length := by rw [I.len]; exact (List.getElem?_eq_some_iff.mp hi).1
  have cne := I.cne
  have tracked : ∀ {a : Addr} {h' : Heap}, (∃ o, s.heap.get? a = some o ∧ H a = none) → Heap.SameBut a s.heap h' → HOk X.prog X.w H h' := fun {a h'} ha hs b ob e => by
    obtain ⟨_, _, hfree⟩ := ha
    refine (I.hok b ob e).stay (fun c w' hc q => (hs.2 c ?_).trans q) (fun _ q => q) fun _ _ q => q
    rintro rfl
    rcases hc with rfl | hc
    · rw [hfree] at e; cases e
    · rw [hfree] at hc; cases hc
  rcases hx with hk | hk
  · refine wpAny_storeName_local hk hn (fun h' hn' hs => ?_) hcls
    obtain ⟨oL, _, _, hoL, _⟩ := id hn
    refine h _ ⟨I.ok, I.os, I.bare, ⟨fun b o e n hb hx => ?_, fun b o e n hb hx => ?_, I.base.free, fun b o e hx => ?_, I.base.tups, I.base.frzs, I.base.tbls⟩, ⟨_, hn', fun j y v' e1 e2 e3 => ?_⟩, fun y c e => ?_, I.free, I.freeC, fun p hp => ?_, tracked ⟨oL, hoL, I.free⟩ hs, by simpa using I.len⟩ ⟨_, hs, .inl rfl⟩
    · exact (hs.2 b (Nat.ne_of_lt (Nat.lt_of_lt_of_le (Heap.lt_size e) I.ok.above))).trans (I.base.keep b o e n hb hx)
    · obtain ⟨sl, e1⟩ := I.base.slot b o e n hb hx
      exact ⟨sl, (hs.2 b (Nat.ne_of_lt (Nat.lt_of_lt_of_le (Heap.lt_size e) I.ok.above))).trans e1⟩
    · obtain ⟨o', e1⟩ := I.base.there b o e hx
      exact ⟨o', (hs.2 b (Nat.ne_of_lt (Nat.lt_of_lt_of_le (Heap.lt_size e) I.ok.above))).trans e1⟩
    · by_cases hj : j = i
      · subst hj
        rw [hi] at e1; cases e1
        rw [List.getElem?_set_self hiσ] at e2
        cases e2
        exact ⟨u, r, .inl ⟨hk, by simp⟩⟩
      · rw [List.getElem?_set_ne (Ne.symm hj)] at e2
        obtain ⟨u', r', q⟩ := hl j y v' e1 e2 e3
        refine ⟨u', r', ?_⟩
        rcases q with ⟨k, e⟩ | ⟨k, c, e, z⟩
        · refine .inl ⟨k, ?_⟩
          have : y ≠ x := fun e => hj (nodup_ix hN e1 (e ▸ hi))
          simp [this, e]
        · exact .inr ⟨k, c, e, z.sameBut hs (cne y c e)⟩
    · obtain ⟨w', z⟩ := I.cell y c e
      exact ⟨w', z.sameBut hs (cne y c e)⟩
    · obtain ⟨e, n, ne, nf, d⟩ := I.pin p hp
      exact ⟨(hs.2 p.1 ne).trans e, n, ne, nf, d⟩
  · have hfn : X.fn x = true := by
      rcases hf with z | z
      · exact z
      · rw [z] at hk; cases hk
    obtain ⟨c, hc⟩ := I.ok.has x (.inl hk)
    obtain ⟨w', z⟩ := I.cell x c hc
    refine wpAny_storeName_cell I.ok.kind hk hc z (fun h' hc' hs => ?_)
    obtain ⟨oc, hoc, hocd⟩ := id z
    refine h { s with heap := h' } ⟨I.ok, I.os, I.bare, ⟨fun b o e n hb hx => ?_, fun b o e n hb hx => ?_, I.base.free, fun b o e hx => ?_, I.base.tups, I.base.frzs, I.base.tbls⟩, ⟨m, hn.sameBut hs (Ne.symm (cne x c hc)), fun j y v' e1 e2 e3 => ?_⟩, fun y c' e => ?_, I.free, I.freeC, fun p hp => ?_, tracked ⟨oc, hoc, I.freeC x c hc⟩ hs, by simpa using I.len⟩ ⟨c, hs, .inr hc⟩
    · exact (hs.2 b (Nat.ne_of_lt (Nat.lt_of_lt_of_le (Heap.lt_size e) (I.ok.cab x c hfn hc)))).trans (I.base.keep b o e n hb hx)
    · obtain ⟨sl, e1⟩ := I.base.slot b o e n hb hx
      exact ⟨sl, (hs.2 b (Nat.ne_of_lt (Nat.lt_of_lt_of_le (Heap.lt_size e) (I.ok.cab x c hfn hc)))).trans e1⟩
    · obtain ⟨o', e1⟩ := I.base.there b o e hx
      exact ⟨o', (hs.2 b (Nat.ne_of_lt (Nat.lt_of_lt_of_le (Heap.lt_size e) (I.ok.cab x c hfn hc)))).trans e1⟩
    · by_cases hj : j = i
      · subst hj
        rw [hi] at e1; cases e1
        rw [List.getElem?_set_self hiσ] at e2
        cases e2
        exact ⟨u, r, .inr ⟨.inl hk, c, hc, hc'⟩⟩
      · rw [List.getElem?_set_ne (Ne.symm hj)] at e2
        obtain ⟨u', r', q⟩ := hl j y v' e1 e2 e3
        refine ⟨u', r', ?_⟩
        rcases q with q | ⟨k, c', e, z'⟩
        · exact .inl q
        · refine .inr ⟨k, c', e, z'.sameBut hs ?_⟩
          rintro rfl
          exact hj (nodup_ix hN e1 (I.ok.inj _ _ _ e hc ▸ hi))
    · by_cases hcc : c' = c
      · subst hcc; exact ⟨_, hc'⟩
      · obtain ⟨w2, z2⟩ := I.cell y c' e
        exact ⟨w2, z2.sameBut hs hcc⟩
    · obtain ⟨e, n, ne, nf, d⟩ := I.pin p hp
      refine ⟨(hs.2 p.1 ?_).trans e, n, ne, nf, d⟩
      intro q
      rw [q, hoc] at e
      have q' : oc = p.2 := Option.some.inj e
      exact d w' (by rw [← q']; exact hocd)
theorem store_ok {M : Model} {A : Around} {E : Value → Shared → Prop} {i : Nat} {x : Str} {v : V} {u : Value} {Q : Unit → Shared → Prop} (I : Inv X pins σ H s) (hN : X.N.Nodup) (hi : X.N[i]? = some x) (hx : Loc X.env.scope x) (r : RelV v u)
    (h : ∀ s', Inv X pins (σ.set i (some v)) H s' → Q () s') (hf : X.fn x = true ∨ X.env.scope.names.lookup x = some .local := by first | exact .inl rfl | exact .inr rfl | assumption) : wpAny M A (storeName X.env x u) Q E s :=
  store_ok2 I hN hi hx r (fun s' I' _ => h s' I') hf
theorem Inv.call' {s' : Shared} {ch : List Addr} (I : Inv X pins σ H s) (ho : s'.os = s.os) (u : Un (frs X.stack) ch H H' s.heap s'.heap) (hok : HOk X.prog X.w H' s'.heap) (hg : AllBare s'.gens)
    (hch : ∀ b ∈ ch, (b ∈ X.ex ∨ X.s₀.heap.objs.size ≤ b) ∧ b ≠ X.env.locals ∧ (∀ x c, X.env.cells.lookup x = some c → c ≠ b) ∧ ∀ p ∈ X.pn ++ pins, p.1 ≠ b) : Inv X pins σ H' s' := by
  obtain ⟨h', g', d', t', o'⟩ := s'
  have e : o' = s.os := ho
  subst e
  exact I.call (g' := g') (t' := t') (d' := d') u hok hg hch
end
abbrev XK := Value → Option Addr → Hp → Prop
abbrev St := List (Option V)
abbrev VK := V → Hp → Prop
abbrev TE := St → Hp → VK → Prop
abbrev TT := St → Hp → (Bool → Hp → Prop) → Prop
abbrev TA := St → Hp → (List V → Hp → Prop) → Prop
structure Ends where
  nx : St → Hp → Prop
  rt : VK
  bk : St → Hp → Prop := fun _ _ => False
  ct : St → Hp → Prop := fun _ _ => False
abbrev TS := Ends → St → Hp → Prop
def EP (X : Cx) (pins : List (Addr × Obj)) (σ : St) (Q : VK) (u : Value) (s' : Shared) : Prop := ∃ v H', Inv X pins σ H' s' ∧ RelV v u ∧ Q v H'
def TP (X : Cx) (pins : List (Addr × Obj)) (σ : St) (Q : Bool → Hp → Prop) (b : Bool) (s' : Shared) : Prop := ∃ H', Inv X pins σ H' s' ∧ Q b H'
def AP (X : Cx) (pins : List (Addr × Obj)) (σ : St) (Q : List V → Hp → Prop) (us : List Value) (s' : Shared) : Prop := ∃ vs H', Inv X pins σ H' s' ∧ Vals vs us ∧ Q vs H'
def SP (X : Cx) (pins : List (Addr × Obj)) (D : Ends) (f : Flow) (s' : Shared) : Prop :=
  match f with
  | .next => ∃ σ' H', Inv X pins σ' H' s' ∧ D.nx σ' H'
  | .brk => ∃ σ' H', Inv X pins σ' H' s' ∧ D.bk σ' H'
  | .cont => ∃ σ' H', Inv X pins σ' H' s' ∧ D.ct σ' H'
  | .ret u => ∃ v σ' H', Inv X pins σ' H' s' ∧ RelV v u ∧ D.rt v H'
def PE (X : Cx) (e : Expr) (t : TE) : Prop :=
  ∀ (pins : List (Addr × Obj)) (s : Shared) (σ : St) (H : Hp) (Q : VK), Inv X pins σ H s → t σ H Q → wpAny (model X.prog X.w) X.A (eval e X.env) (EP X pins σ Q) X.xe s
def PT (X : Cx) (e : Expr) (t : TT) : Prop :=
  ∀ (pins : List (Addr × Obj)) (s : Shared) (σ : St) (H : Hp) (Q : Bool → Hp → Prop), Inv X pins σ H s → t σ H Q → wpAny (model X.prog X.w) X.A (isTrue e X.env (eval e X.env)) (TP X pins σ Q) X.xe s
def PW (X : Cx) (e : Expr) (t : TT) : Prop :=
  ∀ (whole : Sem Value) (pins : List (Addr × Obj)) (s : Shared) (σ : St) (H : Hp) (Q : Bool → Hp → Prop), Inv X pins σ H s → t σ H Q → wpAny (model X.prog X.w) X.A (isTrue e X.env whole) (TP X pins σ Q) X.xe s
theorem PW.pt {X : Cx} {e : Expr} {t : TT} (h : PW X e t) : PT X e t := h _
def PA (X : Cx) (es : List Expr) (t : TA) : Prop :=
  ∀ (pos : Pos) (pins : List (Addr × Obj)) (s : Shared) (σ : St) (H : Hp) (Q : List V → Hp → Prop), Inv X pins σ H s → t σ H Q → wpAny (model X.prog X.w) X.A (spliced (backTo pos (starEach es X.env))) (AP X pins σ Q) X.xe s
def PS (X : Cx) (st : Stmt) (t : TS) : Prop :=
  ∀ (pins : List (Addr × Obj)) (s : Shared) (σ : St) (H : Hp) (D : Ends), Inv X pins σ H s → t D σ H → wpAny (model X.prog X.w) X.A (exec st X.env) (SP X pins D) X.xe s
def PSs (X : Cx) (st : List Stmt) (t : TS) : Prop :=
  ∀ (pins : List (Addr × Obj)) (s : Shared) (σ : St) (H : Hp) (D : Ends), Inv X pins σ H s → t D σ H → wpAny (model X.prog X.w) X.A (execs st X.env) (SP X pins D) X.xe s
theorem thn {α : Type} {t : Sem α} {Q Q' : α → Shared → Prop} {M : Model} {A : Around} {E : Value → Shared → Prop} {s : Shared} (h : wpAny M A t Q E s) (hQ : ∀ a s, Q a s → Q' a s) : wpAny M A t Q' E s := wpAny_mono h hQ fun _ _ x => x
end L2
namespace L2
open PySem PySem.Spec PyProof.Rows
section
variable {X : Cx}
def tVar (i : Nat) : TE := fun σ H Q => ∃ v, σ[i]? = some (some v) ∧ Q v H
def tC (v : V) : TE := fun _ H Q => Q v H
theorem pe_var {i : Nat} {x : Str} {pos : Pos} (hN : X.N[i]? = some x) (hv : Vis X.env.scope x) (hd : (x == ("__debug__" : Str)) = false := by decide) (hcd : (x == ("__classdict__" : Str)) = false := by decide) : PE X (.Name x pos) (tVar i) := by
  intro pins s σ H Q I h
  obtain ⟨v, e, h⟩ := h
  obtain ⟨m, hn, hl⟩ := I.loc
  obtain ⟨u, r, l⟩ := hl i x v hN e hv
  have fin : EP X pins σ Q u s := ⟨v, H, I, r, h⟩
  rcases l with ⟨hk, hm⟩ | ⟨hk, c, hc, hcell⟩
  · exact wpAny_Name (wpAny_loadName_local I.ok.kind hk hn hm fin) hd
  · rcases hk with hk | hk
    · exact wpAny_Name (wpAny_loadName_cell I.ok.kind hk hc hcell fin) hd
    · exact wpAny_Name (wpAny_loadName_free I.ok.kind hk hc hcell fin hcd) hd
theorem pe_int {i j pos} : PE X (.Constant (.int i) j pos) (tC (.int i)) := fun _ _ _ H _ I h => wpAny_Constant_int ⟨.int i, H, I.tok _, ⟨_, rfl⟩, h⟩
theorem pe_bl {b j pos} : PE X (.Constant (.bool b) j pos) (tC (.bl b)) := fun _ _ _ H _ I h => Constant_bool ⟨.bl b, H, I, rfl, h⟩
theorem pe_non {j pos} : PE X (.Constant .none j pos) (tC .non) := fun _ _ _ H _ I h => Constant_none ⟨.non, H, I, rfl, h⟩
theorem pe_str {x j pos} : PE X (.Constant (.str x) j pos) (tC (.str x)) := fun _ _ _ H _ I h => Calls.Constant_str ⟨.str x, H, I.tok _, ⟨_, rfl⟩, h⟩
def Gl (X : Cx) (x : Str) : Prop := X.env.kindOf x = some .globalImplicit
theorem ld_glob {E : Value → Shared → Prop} {pins : List (Addr × Obj)} {s : Shared} {σ : St} {H : Hp} {x : Str} {u : Value} {pos : Pos} {Q : Value → Shared → Prop} (I : Inv X pins σ H s) (hg : Gl X x) (hm : X.mg x = some u) (h : Q u s)
    (hd : (x == ("__debug__" : Str)) = false := by decide) : wpAny (model X.prog X.w) X.A (eval (.Name x pos) X.env) Q E s :=
  Calls.Name_function_global I.ok.kind hg (Calls.loadGlobal_global (by rw [I.ok.glob]; exact I.mod.glob.keeps I.bk) hm h) hd
theorem ld_blt {E : Value → Shared → Prop} {pins : List (Addr × Obj)} {s : Shared} {σ : St} {H : Hp} {x : Str} {u : Value} {pos : Pos} {Q : Value → Shared → Prop} (I : Inv X pins σ H s) (hg : Gl X x) (hm : X.mg x = none) (hv : bootBuiltins x = some u) (h : Q u s)
    (hn : x ≠ "__name__" := by decide) (hd : (x == ("__debug__" : Str)) = false := by decide) : wpAny (model X.prog X.w) X.A (eval (.Name x pos) X.env) Q E s := by
  obtain ⟨mb, h1, h2⟩ := I.mod.blt
  exact Calls.Name_function_global I.ok.kind hg (Calls.loadGlobal_builtin (by rw [I.ok.glob]; exact I.mod.glob.keeps I.bk) hm (by rw [I.ok.blt]; exact h1.keeps I.bk) ((h2 x hn).trans hv) h) hd
theorem pe_bltn {x : Str} {v : V} {u : Value} {pos : Pos} (hg : Gl X x) (hm : X.mg x = none) (hv : bootBuiltins x = some u) (r : RelV v u) (hn : x ≠ "__name__" := by decide) (hd : (x == ("__debug__" : Str)) = false := by decide) : PE X (.Name x pos) (tC v) :=
  fun _ _ _ H _ I h => ld_blt I hg hm hv ⟨v, H, I, r, h⟩ hn hd
variable {a b : Expr} {ta tb : TE} {pos : Pos}
def PC (X : Cx) (op : CmpOp) (a b : Expr) (t : TE) : Prop :=
  ∀ (pins : List (Addr × Obj)) (s : Shared) (σ : St) (H : Hp) (Q : VK), Inv X pins σ H s → t σ H Q →
    wpAny (model X.prog X.w) X.A (eval a X.env) (fun v s₁ => wpAny (model X.prog X.w) X.A (eval b X.env) (fun u s₂ => wpAny (model X.prog X.w) X.A (compareOp op v u) (EP X pins σ Q) X.xe s₂) X.xe s₁) X.xe s
theorem nobehind (b : Expr) {op : CmpOp} (h : op ≠ .In) (h2 : op ≠ .NotIn) : behindInMarks op b = false := by
  have e1 : (op == CmpOp.In) = false := by cases op <;> first | rfl | exact absurd rfl h
  have e2 : (op == CmpOp.NotIn) = false := by cases op <;> first | rfl | exact absurd rfl h2
  cases b <;> simp [behindInMarks, e1, e2]
def tIsN (ta : TE) : TE := fun σ H Q => ta σ H fun x H1 => Q (.bl (decide (x = .non))) H1
def tNotN (ta : TE) : TE := fun σ H Q => ta σ H fun x H1 => Q (.bl (!decide (x = .non))) H1
theorem RelV.none_iff {x : V} {v : Value} (r : RelV x v) : (v == Value.none) = decide (x = .non) := by
  cases x with
  | non => cases r; rfl
  | bl _ => cases r; rfl
  | int _ => obtain ⟨t, rfl⟩ := r; rfl
  | str _ => obtain ⟨t, rfl⟩ := r; rfl
  | byt _ => obtain ⟨t, rfl⟩ := r; rfl
  | flt _ => obtain ⟨t, rfl⟩ := r; rfl
  | ref _ => cases r; rfl
  | ty _ => cases r; rfl
theorem pc_isN {j pos'} (ha : PE X a ta) : PC X .Is a (.Constant .none j pos') (tIsN ta) := by
  intro pins s σ H Q I h
  refine thn (ha pins s σ H _ I h) fun v s1 ⟨x, H1, I1, r1, q1⟩ => ?_
  exact Constant_none (is_none_gen ⟨.bl _, H1, I1, by rw [r1.none_iff]; rfl, q1⟩)
theorem pc_notN {j pos'} (ha : PE X a ta) : PC X .IsNot a (.Constant .none j pos') (tNotN ta) := by
  intro pins s σ H Q I h
  refine thn (ha pins s σ H _ I h) fun v s1 ⟨x, H1, I1, r1, q1⟩ => ?_
  exact Constant_none (isnot_none_gen ⟨.bl _, H1, I1, by rw [r1.none_iff]; rfl, q1⟩)
def tB (t : TE) : TT := fun σ H Q => t σ H fun x H1 => ∃ c, x = .bl c ∧ Q c H1
theorem pe_cmp {op : CmpOp} {t : TE} (h : PC X op a b t) (h1 : behindInMarks op b = false := by first | exact nobehind _ (by decide) (by decide) | rfl) : PE X (.Compare a [op] [b] pos) t := fun pins s σ H Q I hw => wpAny_Compare1 (h pins s σ H Q I hw) h1
theorem pt_cmp {op : CmpOp} {t : TE} (h : PC X op a b t) (h1 : behindInMarks op b = false := by first | exact nobehind _ (by decide) (by decide) | rfl) : PT X (.Compare a [op] [b] pos) (tB t) := by
  intro pins s σ H Q I hw
  refine wpAny_isTrue_Compare1 (thn (h pins s σ H _ I hw) fun v s1 h1 => thn h1 fun u s2 h2 => thn h2 fun c s3 ⟨x, H1, I1, r1, q1⟩ => ?_) h1
  obtain ⟨d, rfl, q⟩ := q1
  cases r1
  exact wpAny_truthy_bool ⟨H1, I1, q⟩
theorem pt_val {e : Expr} {t : TE} (h : PE X e t) (he : ∀ whole, isTrue e X.env whole = (do let v ← whole; standAt e.pos; holding [v] (truthy v)) := by intro _; rfl) : PT X e (tB t) := by
  intro pins s σ H Q I hw
  refine isTrue_plain (thn (h pins s σ H _ I hw) fun v s1 ⟨x, H1, I1, r1, q1⟩ => ?_) (he _)
  obtain ⟨d, rfl, q⟩ := q1
  cases r1
  exact wpAny_truthy_bool ⟨H1, I1, q⟩
variable {tA tB' : TT} {rest : List Expr}
def tAnd (t u : TT) : TT := fun σ H Q => t σ H fun c H1 => if c = true then u σ H1 Q else Q false H1
def tOr (t u : TT) : TT := fun σ H Q => t σ H fun c H1 => if c = true then Q true H1 else u σ H1 Q
def tNot (t : TT) : TT := fun σ H Q => t σ H fun c H1 => Q (!c) H1
theorem pw_and1 (ha : PT X a tA) : PW X (.BoolOp .And [a] pos) tA := by
  intro wh pins s σ H Q I h
  refine isTrue_and (thn (ha pins s σ H Q I h) fun c s1 e => ?_)
  cases c with
  | true => exact isTrue_and_nil e
  | false => exact e
theorem pw_or1 (ha : PT X a tA) : PW X (.BoolOp .Or [a] pos) tA := by
  intro wh pins s σ H Q I h
  refine isTrue_or (thn (ha pins s σ H Q I h) fun c s1 e => ?_)
  cases c with
  | false => exact isTrue_or_nil e
  | true => exact e
theorem pw_and (ha : PT X a tA) (hb : PW X (.BoolOp .And (b :: rest) pos) tB') : PW X (.BoolOp .And (a :: b :: rest) pos) (tAnd tA tB') := by
  intro wh pins s σ H Q I h
  refine isTrue_and (thn (ha pins s σ H _ I h) fun c s1 ⟨H1, I1, q1⟩ => ?_)
  cases c with
  | true => exact hb wh pins s1 σ H1 Q I1 q1
  | false => exact ⟨H1, I1, q1⟩
theorem pw_or (ha : PT X a tA) (hb : PW X (.BoolOp .Or (b :: rest) pos) tB') : PW X (.BoolOp .Or (a :: b :: rest) pos) (tOr tA tB') := by
  intro wh pins s σ H Q I h
  refine isTrue_or (thn (ha pins s σ H _ I h) fun c s1 ⟨H1, I1, q1⟩ => ?_)
  cases c with
  | true => exact ⟨H1, I1, q1⟩
  | false => exact hb wh pins s1 σ H1 Q I1 q1
theorem pt_not (ha : PT X a tA) : PT X (.UnaryOp .Not a pos) (tNot tA) := by
  intro pins s σ H Q I h
  exact isTrue_not (ha pins s σ H (fun c H1 => Q (!c) H1) I h)
def tAndV (ta tb : TE) : TE := fun σ H Q => ta σ H fun x H1 => ∃ c, x = .bl c ∧ if c = true then tb σ H1 Q else Q (.bl false) H1
def tOrV (ta tb : TE) : TE := fun σ H Q => ta σ H fun x H1 => ∃ c, x = .bl c ∧ if c = true then Q (.bl true) H1 else tb σ H1 Q
def tNotV (ta : TE) : TE := fun σ H Q => ta σ H fun x H1 => ∃ c, x = .bl c ∧ Q (.bl (!c)) H1
theorem pe_one {op} {t : TE} (h : PE X a t) : PE X (.BoolOp op [a] pos) t := fun pins s σ H Q I hw => BoolOp_one (h pins s σ H Q I hw)
theorem pe_and (ha : PE X a ta) (hb : PE X (.BoolOp .And (b :: rest) pos) tb) : PE X (.BoolOp .And (a :: b :: rest) pos) (tAndV ta tb) := by
  intro pins s σ H Q I h
  refine BoolOp_and (thn (ha pins s σ H _ I h) fun v s1 ⟨x, H1, I1, r1, q1⟩ => ?_)
  obtain ⟨c, rfl, q1⟩ := q1
  cases r1
  refine wpAny_truthy_bool ?_
  cases c with
  | true => exact hb pins s1 σ H1 Q I1 q1
  | false => exact ⟨.bl false, H1, I1, rfl, q1⟩
theorem pe_or (ha : PE X a ta) (hb : PE X (.BoolOp .Or (b :: rest) pos) tb) : PE X (.BoolOp .Or (a :: b :: rest) pos) (tOrV ta tb) := by
  intro pins s σ H Q I h
  refine BoolOp_or (thn (ha pins s σ H _ I h) fun v s1 ⟨x, H1, I1, r1, q1⟩ => ?_)
  obtain ⟨c, rfl, q1⟩ := q1
  cases r1
  refine wpAny_truthy_bool ?_
  cases c with
  | false => exact hb pins s1 σ H1 Q I1 q1
  | true => exact ⟨.bl true, H1, I1, rfl, q1⟩
theorem pe_not (ha : PE X a ta) : PE X (.UnaryOp .Not a pos) (tNotV ta) := by
  intro pins s σ H Q I h
  refine UnaryOp_ (thn (ha pins s σ H _ I h) fun v s1 ⟨x, H1, I1, r1, q1⟩ => ?_)
  obtain ⟨c, rfl, q1⟩ := q1
  cases r1
  exact not_of (wpAny_truthy_bool ⟨.bl (!c), H1, I1, rfl, q1⟩)
def tIf (t : TT) (ta tb : TE) : TE := fun σ H Q => t σ H fun c H1 => if c = true then ta σ H1 Q else tb σ H1 Q
theorem pe_ifExp {c : Expr} (hc : PT X c tA) (ha : PE X a ta) (hb : PE X b tb) : PE X (.IfExp c a b pos) (tIf tA ta tb) := by
  intro pins s σ H Q I h
  refine wpAny_IfExp (thn (hc pins s σ H _ I h) fun d s1 ⟨H1, I1, q1⟩ => ?_)
  cases d with
  | true => exact ha pins s1 σ H1 Q I1 q1
  | false => exact hb pins s1 σ H1 Q I1 q1
end
end L2
namespace L2
open PySem PySem.Spec PyProof.Rows
def SqL (K : PySem.W.Frag) (H : Hp) (a : Addr) (xs : List V) : Prop :=
  Rd H a (.lst xs) ∨
    ∃ (o : Obj) (its : Array Value) (n : Nat), K.lookup a = some o ∧ o.cls = .type "list" ∧ o.dict = none ∧ o.data = .seq its n ∧ its.size ≤ sizeLine ∧ Vals xs its.toList
def SqT (K : PySem.W.Frag) (H : Hp) (a : Addr) (xs : List V) : Prop :=
  Rd H a (.tup xs) ∨
    ∃ (o : Obj) (its : Array Value) (n : Nat), K.lookup a = some o ∧ o.cls = .type "tuple" ∧ o.data = .seq its n ∧ its.size ≤ sizeLine ∧ Vals xs its.toList
def absV : Value → Option V
  | .none => some .non
  | .bool b => some (.bl b)
  | .int i _ => some (.int i)
  | .str x _ => some (.str x)
  | .bytes b _ => some (.byt b)
  | .float b _ => some (.flt b)
  | .ref a => some (.ref a)
  | .type n => some (.ty n)
  | _ => none
theorem RelV.abs {x : V} {u : Value} (r : RelV x u) : absV u = some x := by
  cases x with
  | non => cases r; rfl
  | bl _ => cases r; rfl
  | int _ => obtain ⟨t, rfl⟩ := r; rfl
  | str _ => obtain ⟨t, rfl⟩ := r; rfl
  | byt _ => obtain ⟨t, rfl⟩ := r; rfl
  | flt _ => obtain ⟨t, rfl⟩ := r; rfl
  | ref _ => cases r; rfl
  | ty _ => cases r; rfl
theorem RelV.inj {x y : V} {u : Value} (r : RelV x u) (q : RelV y u) : x = y := Option.some.inj (r.abs.symm.trans q.abs)
theorem Vals.inj : ∀ {xs ys : List V} {us : List Value}, Vals xs us → Vals ys us → xs = ys
  | _, _, _, .nil, .nil => rfl
  | _, _, _, .cons r t, .cons r' t' => by rw [r.inj r', Vals.inj t t']
section
variable {X : Cx} {pins : List (Addr × Obj)} {σ : St} {H : Hp} {s : Shared} {a : Addr} {xs ys : List V}
theorem SqL.of {K : PySem.W.Frag} (h : H a = some (.lst xs)) : SqL K H a xs := .inl (.inl h)
theorem SqT.of {K : PySem.W.Frag} (h : H a = some (.tup xs)) : SqT K H a xs := .inl (.inl h)
theorem Inv.list (I : Inv X pins σ H s) (h : SqL X.K H a xs) : ∃ its : List Value, Vals xs its ∧ PlainL s.heap a its.toArray ∧ xs.length ≤ sizeLine := by
  rcases h with h | ⟨o, its, n, hk, hc, hd, hs, hz, r⟩
  · obtain ⟨z, its, n, r, e⟩ := h.ok I.hok
    exact ⟨its, r, ⟨_, n, e, rfl, rfl, rfl⟩, z⟩
  · refine ⟨its.toList, r, ⟨o, n, I.kIn a o hk, hc, hd, by simpa using hs⟩, ?_⟩
    have e := r.length
    simp only [Array.length_toList] at e
    omega
theorem Inv.tuple (I : Inv X pins σ H s) (h : SqT X.K H a xs) : ∃ its : List Value, Vals xs its ∧ IsTup s.heap a its.toArray ∧ xs.length ≤ sizeLine := by
  rcases h with h | ⟨o, its, n, hk, hc, hs, hz, r⟩
  · obtain ⟨z, its, r, p⟩ := h.ok I.hok
    exact ⟨its, r, p, z⟩
  · refine ⟨its.toList, r, ⟨o, I.kIn a o hk, hc, n, by simpa using hs⟩, ?_⟩
    have e := r.length
    simp only [Array.length_toList] at e
    omega
theorem Inv.list_inj (I : Inv X pins σ H s) (h : SqL X.K H a xs) (h' : SqL X.K H a ys) : xs = ys := by
  obtain ⟨its, r, ⟨o, n, e, _, _, d⟩, _⟩ := I.list h
  obtain ⟨its', r', ⟨o', n', e', _, _, d'⟩, _⟩ := I.list h'
  rw [e] at e'; cases e'
  rw [d] at d'
  injection d' with d1 _
  have : its = its' := by simpa using congrArg Array.toList d1
  subst this
  exact r.inj r'
theorem Inv.tuple_inj (I : Inv X pins σ H s) (h : SqT X.K H a xs) (h' : SqT X.K H a ys) : xs = ys := by
  obtain ⟨its, r, ⟨o, e, _, n, d⟩, _⟩ := I.tuple h
  obtain ⟨its', r', ⟨o', e', _, n', d'⟩, _⟩ := I.tuple h'
  rw [e] at e'; cases e'
  rw [d] at d'
  injection d' with d1 _
  have : its = its' := by simpa using congrArg Array.toList d1
  subst this
  exact r.inj r'
end
abbrev Cx.wish (X : Cx) (E : Value → Shared → Prop) : Cx := { X with xe := E }
abbrev Cx.nox (X : Cx) : Cx := X.wish fun _ _ => False
theorem Cx.Ok.wish {X : Cx} (ok : X.Ok) (E : Value → Shared → Prop) : (X.wish E).Ok :=
  ⟨ok.mod, ok.kind, ok.glob, ok.blt, ok.above, ok.inj, ok.has, ok.cab, ok.hd, ok.frames, ok.stk, ok.exf, ok.bs, ok.bsz, ok.noex, ok.exfs, ok.funs, ok.frf⟩
theorem Cx.Ok.unwish {X : Cx} {E : Value → Shared → Prop} (ok : (X.wish E).Ok) : X.Ok :=
  ⟨ok.mod, ok.kind, ok.glob, ok.blt, ok.above, ok.inj, ok.has, ok.cab, ok.hd, ok.frames, ok.stk, ok.exf, ok.bs, ok.bsz, ok.noex, ok.exfs, ok.funs, ok.frf⟩
section
variable {X : Cx} {pins : List (Addr × Obj)} {σ : St} {H : Hp} {s : Shared} {E : Value → Shared → Prop}
theorem Inv.wish (I : Inv X pins σ H s) (E : Value → Shared → Prop) : Inv (X.wish E) pins σ H s := ⟨I.ok.wish E, I.os, I.bare, I.base, I.loc, I.cell, I.free, I.freeC, I.pin, I.hok, I.len⟩
theorem Inv.unwish (I : Inv (X.wish E) pins σ H s) : Inv X pins σ H s := ⟨I.ok.unwish, I.os, I.bare, I.base, I.loc, I.cell, I.free, I.freeC, I.pin, I.hok, I.len⟩
theorem SP.unwish {D : Ends} {f : Flow} {s' : Shared} (h : SP (X.wish E) pins D f s') : SP X pins D f s' := by
  cases f with
  | next => obtain ⟨σ', H', I, q⟩ := h; exact ⟨σ', H', I.unwish, q⟩
  | brk => obtain ⟨σ', H', I, q⟩ := h; exact ⟨σ', H', I.unwish, q⟩
  | cont => obtain ⟨σ', H', I, q⟩ := h; exact ⟨σ', H', I.unwish, q⟩
  | ret u => obtain ⟨v, σ', H', I, r, q⟩ := h; exact ⟨v, σ', H', I.unwish, r, q⟩
theorem PE.nox {e : Expr} {t : TE} (h : PE X.nox e t) : PE X e t := fun pins s σ H Q I hw =>
  wpAny_mono (h pins s σ H Q (I.wish _) hw) (fun _ _ ⟨v, H', I', r, q⟩ => ⟨v, H', I'.unwish, r, q⟩) fun _ _ z => False.elim z
theorem PT.nox {e : Expr} {t : TT} (h : PT X.nox e t) : PT X e t := fun pins s σ H Q I hw =>
  wpAny_mono (h pins s σ H Q (I.wish _) hw) (fun _ _ ⟨H', I', q⟩ => ⟨H', I'.unwish, q⟩) fun _ _ z => False.elim z
theorem PSs.nox {st : List Stmt} {t : TS} (h : PSs X.nox st t) : PSs X st t := fun pins s σ H D I hw =>
  wpAny_mono (h pins s σ H D (I.wish _) hw) (fun _ _ q => q.unwish) fun _ _ z => False.elim z
end
section
variable {X : Cx} {st : Stmt} {rest : List Stmt} {t u : TS} {e : Expr} {te : TE} {pos : Pos}
def tNext : TS := fun D σ H => D.nx σ H
def tSeq (t u : TS) : TS := fun D σ H => t { D with nx := u D } σ H
theorem pss_nil : PSs X [] tNext := fun _ _ σ H _ I h => wpAny_execs_nil ⟨σ, H, I, h⟩
theorem pss_cons (h1 : PS X st t) (h2 : PSs X rest u) : PSs X (st :: rest) (tSeq t u) := by
  intro pins s σ H D I h
  refine wpAny_execs_cons (thn (h1 pins s σ H { D with nx := u D } I h) fun f s1 q => ?_)
  cases f with
  | next =>
    obtain ⟨σ', H', I', q⟩ := q
    exact h2 pins s1 σ' H' D I' q
  | ret v => exact q
  | brk => exact q
  | cont => exact q
theorem pss_one (h1 : PS X st t) : PSs X [st] t := by
  intro pins s σ H D I h
  refine wpAny_execs_cons (thn (h1 pins s σ H D I h) fun f s1 q => ?_)
  cases f with
  | next => exact wpAny_execs_nil q
  | ret v => exact q
  | brk => exact q
  | cont => exact q
theorem Inv.quiet {pins : List (Addr × Obj)} {σ : St} {H : Hp} {s : Shared} (I : Inv X pins σ H s) : interactive X.env = false := by simp [interactive, I.ok.kind]
def tDrop (te : TE) : TS := fun D σ H => te σ H fun _ H1 => D.nx σ H1
theorem ps_expr (he : PE X e te) (hs : swapsWith e none pos.line X.env = pure false := by rfl) : PS X (.Expr e pos) (tDrop te) := by
  intro pins s σ H D I h
  exact wpAny_Expr_any (thn (he pins s σ H _ I h) fun v s1 ⟨x, H1, I1, r1, q1⟩ => ⟨σ, H1, I1, q1⟩) I.quiet hs
def tRet (te : TE) : TS := fun D σ H => te σ H D.rt
theorem ps_ret (he : PE X e te) : PS X (.Return (some e) pos) (tRet te) := by
  intro pins s σ H D I h
  exact wpAny_Return_some (thn (he pins s σ H _ I h) fun v s1 ⟨x, H1, I1, r1, q1⟩ => ⟨x, σ, H1, I1, r1, q1⟩)
def tIfS (c : TT) (t u : TS) : TS := fun D σ H => c σ H fun b H1 => if b = true then t D σ H1 else u D σ H1
theorem ps_if {c : Expr} {a b : List Stmt} {tc : TT} (hc : PT X c tc) (ha : PSs X a t) (hb : PSs X b u) : PS X (.If c a b pos) (tIfS tc t u) := by
  intro pins s σ H D I h
  refine wpAny_If (thn (hc pins s σ H _ I h) fun d s1 ⟨H1, I1, q1⟩ => ?_)
  cases d with
  | true => exact ha pins s1 σ H1 D I1 q1
  | false => exact hb pins s1 σ H1 D I1 q1
end
abbrev TG := V → St → Hp → (St → Hp → Prop) → Prop
abbrev TGs := List V → St → Hp → (St → Hp → Prop) → Prop
def PG (X : Cx) (target : Expr) (t : TG) : Prop :=
  ∀ (pins : List (Addr × Obj)) (s : Shared) (σ : St) (H : Hp) (v : V) (u : Value) (Q : St → Hp → Prop), Inv X pins σ H s → RelV v u → t v σ H Q →
    wpAny (model X.prog X.w) X.A (assign target X.env u) (fun _ s' => ∃ σ' H', Inv X pins σ' H' s' ∧ Q σ' H') X.xe s
def PGs (X : Cx) (ts : List Expr) (t : TGs) : Prop :=
  ∀ (pins : List (Addr × Obj)) (s : Shared) (σ : St) (H : Hp) (vs : List V) (us : List Value) (Q : St → Hp → Prop), Inv X pins σ H s → Vals vs us → t vs σ H Q →
    wpAny (model X.prog X.w) X.A (assignInOrder ((assignEach ts X.env).map (·.2)) us) (fun _ s' => ∃ σ' H', Inv X pins σ' H' s' ∧ Q σ' H') X.xe s
abbrev TSet := V → V → V → Hp → (Hp → Prop) → Prop
def PSet (X : Cx) (t : TSet) : Prop :=
  ∀ (pins : List (Addr × Obj)) (s : Shared) (σ : St) (H : Hp) (o i v : V) (ov iv u : Value) (Q : Hp → Prop), Inv X pins σ H s → RelV o ov → RelV i iv → RelV v u → t o i v H Q →
    wpAny (model X.prog X.w) X.A (setItem ov iv u) (fun _ s' => ∃ H', Inv X pins σ H' s' ∧ Q H') X.xe s
section
variable {X : Cx} {pos : Pos}
def gName (i : Nat) : TG := fun v σ H Q => Q (σ.set i (some v)) H
theorem pg_name {i : Nat} {x : Str} (hN : X.N.Nodup) (hi : X.N[i]? = some x) (hx : Loc X.env.scope x) (hf : X.fn x = true ∨ X.env.scope.names.lookup x = some .local := by first | exact .inl rfl | exact .inr rfl | assumption) : PG X (.Name x pos) (gName i) := by
  intro pins s σ H v u Q I r h
  exact wpAny_assign_Name (store_ok I hN hi hx r (fun s' I' => ⟨_, H, I', h⟩) hf)
def gNil : TGs := fun vs σ H Q => vs = [] ∧ Q σ H
def gCons (t : TG) (u : TGs) : TGs := fun vs σ H Q => ∃ v r, vs = v :: r ∧ t v σ H fun σ' H' => u r σ' H' Q
theorem pgs_nil : PGs X [] gNil := by
  intro pins s σ H vs us Q I r h
  obtain ⟨e, h⟩ := h
  subst e
  cases r
  exact assignInOrder_nil ⟨σ, H, I, h⟩
theorem pgs_cons {e : Expr} {es : List Expr} {t : TG} {u : TGs} (h1 : PG X e t) (h2 : PGs X es u)
    (hs : (assignEach (e :: es) X.env).map (·.2) = assign e X.env :: (assignEach es X.env).map (·.2) := by rfl) : PGs X (e :: es) (gCons t u) := by
  intro pins s σ H vs us Q I r h
  obtain ⟨v, vr, e1, h⟩ := h
  subst e1
  cases r with
  | cons r rr =>
    rw [hs]
    refine assignInOrder_cons (thn (h1 pins s σ H _ _ _ I r h) fun _ s1 ⟨σ1, H1, I1, q1⟩ => ?_)
    exact h2 pins s1 σ1 H1 _ _ Q I1 rr q1
def gTup (K : PySem.W.Frag) (n : Nat) (t : TGs) : TG := fun v σ H Q => ∃ a xs, v = .ref a ∧ SqT K H a xs ∧ xs.length = n ∧ t xs σ H Q
theorem pg_tup {es : List Expr} {k : Nat} {t : TGs} {n : Nat} (hc : X.calm = true) (h : PGs X es t)
    (hn : (assignEach es X.env).length = n := by rfl) (hst : (assignEach es X.env).findIdx? (·.1) = none := by rfl) : PG X (.Tuple es k pos) (gTup X.K n t) := by
  intro pins s σ H v u Q I r hw
  obtain ⟨a, xs, e1, hq, hl, hw⟩ := hw
  subst e1
  cases r
  obtain ⟨its, rv, ht, hz⟩ := I.tuple hq
  refine assign_Tuple_tuple (I.ok.hd hc) ht (by simp [hn, ← hl, rv.length]) hst fun h' hx => ?_
  have I1 : Inv X pins σ H { s with heap := h' } := I.kept (t' := s.toks) fun b o e => hx b o (Nat.ne_of_lt (Heap.lt_size e)) e
  exact h pins _ σ H xs _ Q I1 (by simpa using rv) hw
def gSub (to ti : TE) (t : TSet) : TG := fun v σ H Q => to σ H fun o H1 => ti σ H1 fun i H2 => t o i v H2 fun H3 => Q σ H3
theorem pg_sub {o i : Expr} {to ti : TE} {t : TSet} (ho : PE X o to) (hi : PE X i ti) (hs : PSet X t)
    (ha : ∀ v, assign (.Subscript o i pos) X.env v = (do
      let ov ← holding [v] (eval o X.env)
      let iv ← holding [v, ov] (eval i X.env)
      standAt pos
      holding [v, ov, iv] (setItem ov iv v)
      release [v, ov, iv] []) := by intro _; rfl) : PG X (.Subscript o i pos) (gSub to ti t) := by
  intro pins s σ H v u Q I r h
  rw [ha]
  refine wpAny_bind (wpAny_holding (thn (ho pins s σ H _ I h) fun ov s1 ⟨x, H1, I1, r1, q1⟩ => ?_))
  refine wpAny_bind (wpAny_holding (thn (hi pins s1 σ H1 _ I1 q1) fun iv s2 ⟨y, H2, I2, r2, q2⟩ => ?_))
  refine wpAny_bind (wpAny_standAt (wpAny_bind (wpAny_holding (thn (hs pins s2 σ H2 x y v ov iv u _ I2 r1 r2 r q2) fun _ s3 ⟨H3, I3, q3⟩ => ?_))))
  exact wpAny_release ⟨σ, H3, I3, q3⟩
def tAsg (te : TE) (g : TG) : TS := fun D σ H => te σ H fun x H1 => g x σ H1 D.nx
theorem ps_asg {tg e : Expr} {te : TE} {g : TG} (he : PE X e te) (hg : PG X tg g) (hs : swapsWithSole [tg] e pos.line X.env = pure false := by rfl) (hw : swappedStores [tg] e X.env = pure none := by rfl)
    (h1 : (assignEach [tg] X.env).map (·.2) = [assign tg X.env] := by rfl) : PS X (.Assign [tg] e pos) (tAsg te g) := by
  intro pins s σ H D I h
  refine wpAny_Assign_stores (thn (he pins s σ H _ I h) fun v s1 ⟨x, H1, I1, r1, q1⟩ => ?_) hs hw
  rw [h1]
  exact thn (hg pins s1 σ H1 x v _ I1 r1 q1) fun _ s2 q => q
theorem ps_set {i : Nat} {x : Str} {e : Expr} {te : TE} {pos' : Pos} (hN : X.N.Nodup) (hi : X.N[i]? = some x) (hx : Loc X.env.scope x) (he : PE X e te) (hs : swapsWith e (some (.Name x pos')) pos.line X.env = pure false := by rfl) (hf : X.fn x = true ∨ X.env.scope.names.lookup x = some .local := by first | exact .inl rfl | exact .inr rfl | assumption) :
    PS X (.Assign [.Name x pos'] e pos) (tAsg te (gName i)) := by
  intro pins s σ H D I h
  refine wpAny_Assign_Name (thn (he pins s σ H _ I h) fun v s1 ⟨y, H1, I1, r1, q1⟩ => ?_) hs
  exact store_ok I1 hN hi hx r1 (fun s2 I2 => ⟨_, H1, I2, q1⟩) hf
end
section
variable {X : Cx} {pos : Pos}
def tWhile (c : TT) (tb : TS) : TS := fun D σ H => ∃ W : Nat → St → Hp → Prop, (∃ m, W m σ H) ∧ ∀ m σ H, W m σ H →
  c σ H fun b H1 => if b = true then ∃ N : St → Hp → Prop, (∀ σ' H', N σ' H' → ∃ m', m' < m ∧ W m' σ' H') ∧ tb { D with nx := N, ct := N, bk := D.nx } σ H1 else D.nx σ H1
theorem ps_while {c : Expr} {body : List Stmt} {tc : TT} {tb : TS} (hp : PassesOwn (model X.prog X.w) X.A X.env X.xe) (hc : PT X c tc) (hb : PSs X body tb) : PS X (.While c body [] pos) (tWhile tc tb) := by
  intro pins s σ H D I h
  obtain ⟨W, ⟨m0, w0⟩, turn⟩ := h
  refine wpAny_While (codeAny_whileLoop (fun n s' => ∃ σ' H', Inv X pins σ' H' s' ∧ W n σ' H') ?_ m0 ⟨σ, H, I, w0⟩)
  rintro n s1 ⟨σ1, H1, I1, w1⟩
  refine wpAny_passesOwn hp (thn (hc pins s1 σ1 H1 _ I1 (turn n σ1 H1 w1)) fun b s2 ⟨H2, I2, q2⟩ => ?_)
  cases b with
  | true =>
    obtain ⟨N, hN, q2⟩ := q2
    rw [if_pos rfl]
    refine wpAny_passesOwn hp (thn (hb pins s2 σ1 H2 _ I2 q2) fun f s3 q3 => ?_)
    cases f with
    | next =>
      obtain ⟨σ3, H3, I3, n3⟩ := q3
      obtain ⟨m', hm, w3⟩ := hN σ3 H3 n3
      exact ⟨m', hm, σ3, H3, I3, w3⟩
    | cont =>
      obtain ⟨σ3, H3, I3, n3⟩ := q3
      obtain ⟨m', hm, w3⟩ := hN σ3 H3 n3
      exact ⟨m', hm, σ3, H3, I3, w3⟩
    | brk => exact q3
    | ret v => exact q3
  | false =>
    rw [if_neg Bool.false_ne_true]
    exact wpAny_execs_nil ⟨σ1, H2, I2, q2⟩
end
structure It where
  go : Nat → Hp → Prop
  yld : Nat → Hp → V → Hp → Prop
  stop : Nat → Hp → Prop
def FpOk (X : Cx) (pins : List (Addr × Obj)) (H : Hp) (b : Addr) : Prop :=
  H b = none ∧ b ≠ X.env.locals ∧ b ∉ X.fs ∧ (b ∈ X.ex ∨ X.s₀.heap.objs.size ≤ b) ∧ (∀ x c, X.env.cells.lookup x = some c → c ≠ b) ∧ ∀ p ∈ X.pn ++ pins, p.1 ≠ b
theorem Inv.fpOk {X : Cx} {pins : List (Addr × Obj)} {σ : St} {H H' : Hp} {s : Shared} {b : Addr} (I : Inv X pins σ H s) (hb : s.heap.objs.size ≤ b) (hn : H' b = none) : FpOk X pins H' b := by
  refine ⟨hn, Nat.ne_of_gt (Nat.lt_of_lt_of_le I.lt hb), I.nofs hb, .inr (Nat.le_trans I.sz hb), fun x c e z => ?_, fun p hp z => ?_⟩
  · obtain ⟨v, q⟩ := I.cell x c e
    exact absurd (Nat.lt_of_lt_of_le q.lt (by rw [z]; exact hb)) (Nat.lt_irrefl _)
  · exact absurd (Nat.lt_of_lt_of_le (Heap.lt_size (I.pin p hp).1) (by rw [z]; exact hb)) (Nat.lt_irrefl _)
structure Turn (P : Program) (w : World) (K : PySem.W.Frag) (tg : Expr) (J : It) (fp : List Addr) (it : Addr) (tn : Nat → Heap → Prop) : Prop where
  mem : it ∈ fp
  obj : ∀ i h, tn i h → ∀ b ∈ fp, ∃ o, h.get? b = some o ∧ ∀ v, o.data ≠ .cell v
  keep : ∀ i h h', tn i h → (∀ b ∈ fp, ∀ o, h.get? b = some o → h'.get? b = some o) → tn i h'
  item : ∀ (X : Cx), X.prog = P → X.w = w → X.K = K → X.calm = true → ∀ (i : Nat) (pins : List (Addr × Obj)) (s : Shared) (σ : St) (H : Hp) (E : Value → Shared → Prop), Inv X pins σ H s → (∀ b ∈ fp, FpOk X pins H b) → tn i s.heap → J.go i H →
    wpAny (model P w) X.A (pyNext (.ref it)) (fun r s1 => ∃ u, r = some u ∧
      wpAny (model P w) X.A (letOwnedTupleGo tg (.ref it) u) (fun _ s2 => ∃ x H', Inv X pins σ H' s2 ∧ RelV x u ∧ J.yld i H x H' ∧ tn (i + 1) s2.heap ∧ ∀ b ∈ fp, H' b = none) E s1) E s
  done : ∀ (X : Cx), X.prog = P → X.w = w → X.K = K → X.calm = true → ∀ (i : Nat) (pins : List (Addr × Obj)) (s : Shared) (σ : St) (H : Hp) (E : Value → Shared → Prop), Inv X pins σ H s → (∀ b ∈ fp, FpOk X pins H b) → tn i s.heap → J.stop i H →
    wpAny (model P w) X.A (pyNext (.ref it)) (fun r s1 => r = none ∧ Inv X pins σ H s1) E s
  self : ∀ (A : Around) (i : Nat) (s : Shared) (Q : Value → Shared → Prop) (E : Value → Shared → Prop), tn i s.heap → Q (.ref it) s → wpAny (model P w) A (pyIter (.ref it)) Q E s
abbrev TI := St → Hp → (It → Hp → Prop) → Prop
def PIE (X : Cx) (pins : List (Addr × Obj)) (σ : St) (tg : Expr) (R : It → Hp → Prop) (itv : Value) (s2 : Shared) : Prop :=
  ∃ (it : Addr) (fp : List Addr) (tn : Nat → Heap → Prop) (J : It) (H' : Hp), itv = .ref it ∧ Inv X pins σ H' s2 ∧ Turn X.prog X.w X.K tg J fp it tn ∧ tn 0 s2.heap ∧ (∀ b ∈ fp, FpOk X pins H' b) ∧ R J H'
def PI (X : Cx) (tg iter : Expr) (wi : TI) : Prop :=
  ∀ (pins : List (Addr × Obj)) (s : Shared) (σ : St) (H : Hp) (R : It → Hp → Prop), Inv X pins σ H s → wi σ H R →
    wpAny (model X.prog X.w) X.A (eval iter X.env) (fun v s1 => wpAny (model X.prog X.w) X.A (pyIter v) (PIE X pins σ tg R) X.xe s1) X.xe s
theorem go_of {M : Model} {A : Around} {E : Value → Shared → Prop} {s : Shared} {tg : Expr} {it : Addr} {u : Value} {o : Obj} {n : String} {vs : Array Value} {Q : Unit → Shared → Prop} (ho : s.heap.get? it = some o) (hc : o.cls = .type n) (hd : o.data = .fields vs)
    (hn : ["enumerate", "zip", "dict_itemiterator", "dict_reverseitemiterator", "odict_iterator", "itertools.zip_longest", "itertools.pairwise"].contains n = false) (hQ : Q () s) : wpAny M A (letOwnedTupleGo tg (.ref it) u) Q E s := by
  unfold letOwnedTupleGo
  cases tg <;> first
    | exact wpAny_pure hQ
    | (cases u <;> first
        | exact wpAny_pure hQ
        | (refine wpAny_bind (wpAny_load ho ?_)
           rw [hc, hd]
           show wpAny M A (if (["enumerate", "zip", "dict_itemiterator", "dict_reverseitemiterator", "odict_iterator", "itertools.zip_longest", "itertools.pairwise"].contains n && vs[0]? == some (rawInt _)) = true then _ else _) Q E s
           rw [if_neg (by intro h; rw [hn, Bool.false_and] at h; cases h)]
           exact wpAny_pure hQ))
def Itl (K : PySem.W.Frag) (a : Addr) : It :=
  ⟨fun i H => ∃ xs x, SqL K H a xs ∧ xs[i]? = some x, fun i H x H' => H' = H ∧ ∀ xs, SqL K H a xs → xs[i]? = some x, fun i H => ∃ xs, SqL K H a xs ∧ xs.length ≤ i⟩
def Itt (K : PySem.W.Frag) (a : Addr) : It :=
  ⟨fun i H => ∃ xs x, SqT K H a xs ∧ xs[i]? = some x, fun i H x H' => H' = H ∧ ∀ xs, SqT K H a xs → xs[i]? = some x, fun i H => ∃ xs, SqT K H a xs ∧ xs.length ≤ i⟩
def Itr (lo : Int) (n : Nat) : It := ⟨fun i _ => i < n, fun i H x H' => H' = H ∧ x = .int (lo + i), fun i _ => n ≤ i⟩
theorem turn_list {P : Program} {w : World} {K : PySem.W.Frag} {tg : Expr} (a it : Addr) : Turn P w K tg (Itl K a) [it] it (fun i h => h.IsListIter it a i) where
  mem := by simp
  obj := fun i h st b hb => by
    have e : b = it := by simpa using hb
    subst e
    obtain ⟨o, e, c, d⟩ := st
    exact ⟨o, e, fun v z => by rw [d] at z; cases z⟩
  keep := fun i h h' st k => st.at fun o e => k it (by simp) o e
  item := by
    intro X hP hw hK hc i pins s σ H E I hf st hg
    subst hP hw hK
    obtain ⟨xs, x, hq, hx⟩ := hg
    obtain ⟨its, rv, p, hz⟩ := I.list hq
    obtain ⟨u, hu, ru⟩ := rv.get hx
    obtain ⟨f0, f1, f2, f3, f4, f5⟩ := hf it (by simp)
    refine wpAny_pyNext_list_item st p.isList (x := u) (by simpa using hu) fun h' st' sb => ?_
    have I1 : Inv X pins σ H { s with heap := h' } := I.turned (t' := s.toks) (fun b o hb e => (sb.2 b hb).trans e) f0 f1 f3 f4 f5
    obtain ⟨o, e, c, d⟩ := id st'
    exact ⟨u, rfl, go_of (s := { s with heap := h' }) e c d (by decide) ⟨x, H, I1, ru, ⟨rfl, fun ys hy => by rw [I.list_inj hy hq]; exact hx⟩, st', fun b hb => (hf b hb).1⟩⟩
  done := by
    intro X hP hw hK hc i pins s σ H E I hf st hg
    subst hP hw hK
    obtain ⟨xs, hq, hx⟩ := hg
    obtain ⟨its, rv, p, hz⟩ := I.list hq
    obtain ⟨f0, f1, f2, f3, f4, f5⟩ := hf it (by simp)
    have hl := rv.length
    exact wpAny_pyNext_list_end (I.ok.hd hc) st p.isList (by simp; omega) fun h' eb => ⟨rfl, I.turned (t' := s.toks) (fun b o hb e => eb b o hb e) f0 f1 f3 f4 f5⟩
  self := fun _ _ _ _ _ st h => wpAny_pyIter_listiter st h
theorem turn_tuple {P : Program} {w : World} {K : PySem.W.Frag} {tg : Expr} (a it : Addr) : Turn P w K tg (Itt K a) [it] it (fun i h => h.IsTupleIter it a i) where
  mem := by simp
  obj := fun i h st b hb => by
    have e : b = it := by simpa using hb
    subst e
    obtain ⟨o, e, c, d⟩ := st
    exact ⟨o, e, fun v z => by rw [d] at z; cases z⟩
  keep := fun i h h' st k => st.at fun o e => k it (by simp) o e
  item := by
    intro X hP hw hK hc i pins s σ H E I hf st hg
    subst hP hw hK
    obtain ⟨xs, x, hq, hx⟩ := hg
    obtain ⟨its, rv, p, hz⟩ := I.tuple hq
    obtain ⟨u, hu, ru⟩ := rv.get hx
    obtain ⟨f0, f1, f2, f3, f4, f5⟩ := hf it (by simp)
    refine wpAny_pyNext_tuple_item st (show s.heap.IsTuple a its.toArray from p) (x := u) (by simpa using hu) fun h' st' sb => ?_
    have I1 : Inv X pins σ H { s with heap := h' } := I.turned (t' := s.toks) (fun b o hb e => (sb.2 b hb).trans e) f0 f1 f3 f4 f5
    obtain ⟨o, e, c, d⟩ := id st'
    exact ⟨u, rfl, go_of (s := { s with heap := h' }) e c d (by decide) ⟨x, H, I1, ru, ⟨rfl, fun ys hy => by rw [I.tuple_inj hy hq]; exact hx⟩, st', fun b hb => (hf b hb).1⟩⟩
  done := by
    intro X hP hw hK hc i pins s σ H E I hf st hg
    subst hP hw hK
    obtain ⟨xs, hq, hx⟩ := hg
    obtain ⟨its, rv, p, hz⟩ := I.tuple hq
    obtain ⟨f0, f1, f2, f3, f4, f5⟩ := hf it (by simp)
    have hl := rv.length
    exact wpAny_pyNext_tuple_end (I.ok.hd hc) st (show s.heap.IsTuple a its.toArray from p) (by simp; omega) fun h' eb => ⟨rfl, I.turned (t' := s.toks) (fun b o hb e => eb b o hb e) f0 f1 f3 f4 f5⟩
  self := fun _ _ _ _ _ st h => wpAny_pyIter_tupleiter st h
theorem turn_range {P : Program} {w : World} {K : PySem.W.Frag} {tg : Expr} (it : Addr) (lo : Int) (n : Nat) : Turn P w K tg (Itr lo n) [it] it (fun i h => IsRangeIter h it (lo + (i : Nat) * 1) ((n : Int) - (i : Nat)) 1) where
  mem := by simp
  obj := fun i h st b hb => by
    have e : b = it := by simpa using hb
    subst e
    exact ⟨_, st, fun v z => by
      have z' : Data.fields _ = Data.cell v := z
      cases z'⟩
  keep := fun i h h' st k => k it (by simp) _ st
  item := by
    intro X hP hw hK hc i pins s σ H E I hf st hg
    subst hP hw hK
    obtain ⟨f0, f1, f2, f3, f4, f5⟩ := hf it (by simp)
    have W := Walks.range (prog := X.prog) (w := X.w) (I.ok.hd hc) it lo 1 n
    refine W.item i s _ _ hg st fun v h' tk hv st' kk => ?_
    obtain ⟨t, rfl⟩ := hv
    have I1 : Inv X pins σ H { s with heap := h', toks := tk } := I.turned (fun b o hb e => kk b o (by simpa using hb) e) f0 f1 f3 f4 f5
    refine ⟨_, rfl, go_of (s := { s with heap := h', toks := tk }) (n := "range_iterator") st' rfl rfl (by decide) ⟨.int (lo + i), H, I1, ⟨t, ?_⟩, ⟨rfl, rfl⟩, st', fun b hb => (hf b hb).1⟩⟩
    rw [Int.mul_one]
  done := by
    intro X hP hw hK hc i pins s σ H E I hf st hg
    subst hP hw hK
    obtain ⟨f0, f1, f2, f3, f4, f5⟩ := hf it (by simp)
    exact wpAny_pyNext_range_end (I.ok.hd hc) st (by have : n ≤ i := hg; omega) fun h' eb => ⟨rfl, I.turned (t' := s.toks) (fun b o hb e => eb b o hb e) f0 f1 f3 f4 f5⟩
  self := fun _ _ _ _ _ st h => wpAny_pyIter_rangeiter st h
end L2
namespace L2
open PySem PySem.Spec PyProof.Rows
section
variable {X : Cx} {tg : Expr}
def iList (K : PySem.W.Frag) (tl : TE) : TI := fun σ H R => tl σ H fun x H1 => ∃ a, x = .ref a ∧ (∃ xs, SqL K H1 a xs) ∧ R (Itl K a) H1
def iTup (K : PySem.W.Frag) (tl : TE) : TI := fun σ H R => tl σ H fun x H1 => ∃ a, x = .ref a ∧ (∃ xs, SqT K H1 a xs) ∧ R (Itt K a) H1
theorem pi_list {l : Expr} {tl : TE} (hl : PE X l tl) : PI X tg l (iList X.K tl) := by
  intro pins s σ H R I h
  refine thn (hl pins s σ H _ I h) fun v s1 ⟨x, H1, I1, r1, q1⟩ => ?_
  obtain ⟨a, e, ⟨xs, hq⟩, q⟩ := q1
  subst e
  cases r1
  obtain ⟨its, rv, p, hz⟩ := I1.list hq
  refine wpAny_pyIter_list p.isList ?_
  refine ⟨s1.heap.objs.size, [s1.heap.objs.size], _, _, H1, rfl, I1.kept (t' := s1.toks) fun b o e => Heap.get?_push_of_some _ e, turn_list a _, ⟨_, Heap.get?_push_size _ rfl, rfl, rfl⟩, fun b hb => ?_, q⟩
  have e : b = s1.heap.objs.size := by simpa using hb
  subst e
  exact I1.fpOk (Nat.le_refl _) (I1.hok.fresh (Nat.le_refl _))
theorem pi_tup {l : Expr} {tl : TE} (hl : PE X l tl) : PI X tg l (iTup X.K tl) := by
  intro pins s σ H R I h
  refine thn (hl pins s σ H _ I h) fun v s1 ⟨x, H1, I1, r1, q1⟩ => ?_
  obtain ⟨a, e, ⟨xs, hq⟩, q⟩ := q1
  subst e
  cases r1
  obtain ⟨its, rv, p, hz⟩ := I1.tuple hq
  refine wpAny_pyIter_tuple (show s1.heap.IsTuple a its.toArray from p) ?_
  refine ⟨s1.heap.objs.size, [s1.heap.objs.size], _, _, H1, rfl, I1.kept (t' := s1.toks) fun b o e => Heap.get?_push_of_some _ e, turn_tuple a _, ⟨_, Heap.get?_push_size _ rfl, rfl, rfl⟩, fun b hb => ?_, q⟩
  have e : b = s1.heap.objs.size := by simpa using hb
  subst e
  exact I1.fpOk (Nat.le_refl _) (I1.hok.fresh (Nat.le_refl _))
theorem range_it {pins : List (Addr × Obj)} {σ : St} {H : Hp} {s : Shared} {R : It → Hp → Prop} {E : Value → Shared → Prop} {lo hi : Int} {t u v : Tok} {tk : Nat} (I : Inv X pins σ H s) (h1 : -(2 ^ 62) ≤ lo) (h2 : lo < 2 ^ 62) (h3 : -(2 ^ 62) ≤ hi) (h4 : hi < 2 ^ 62)
    (q : R (Itr lo (hi - lo).toNat) H) : wpAny (model X.prog X.w) X.A (pyIter (.ref s.heap.objs.size)) (PIE X pins σ tg R) E { s with heap := s.heap.push { cls := .type "range", data := .fields #[.int lo t, .int hi u, .int 1 v] }, toks := tk } := by
  refine wpAny_pyIter_range (IsRange.new ..) (small_one h1 h2 h3 h4) ?_
  have I1 : Inv X pins σ H { s with heap := s.heap.push { cls := .type "range", data := .fields #[.int lo t, .int hi u, .int 1 v] }, toks := tk } := I.kept fun b o e => Heap.get?_push_of_some _ e
  refine ⟨(s.heap.push { cls := .type "range", data := .fields #[.int lo t, .int hi u, .int 1 v] }).objs.size, [(s.heap.push { cls := .type "range", data := .fields #[.int lo t, .int hi u, .int 1 v] }).objs.size], _, _, H, rfl,
    I1.kept (t' := tk) fun b o e => Heap.get?_push_of_some _ e, turn_range _ lo (hi - lo).toNat, ?_, fun b hb => ?_, q⟩
  · have e1 : lo + ((0 : Nat) : Int) * 1 = lo := by simp
    have e2 : (((hi - lo).toNat : Nat) : Int) - ((0 : Nat) : Int) = Builtin.Range.rangeSize lo hi 1 := by rw [rangeSize_one]; split <;> omega
    show IsRangeIter _ _ (lo + ((0 : Nat) : Int) * 1) ((((hi - lo).toNat : Nat) : Int) - ((0 : Nat) : Int)) 1
    rw [e1, e2]
    exact Heap.get?_push_size _ rfl
  · have e : b = (s.heap.push { cls := .type "range", data := .fields #[.int lo t, .int hi u, .int 1 v] }).objs.size := by simpa using hb
    subst e
    exact I1.fpOk (Nat.le_refl _) (I1.hok.fresh (Nat.le_refl _))
def iRng1 (ta : TA) : TI := fun σ H R => ta σ H fun vs H1 => ∃ j : Int, vs = [.int j] ∧ -(2 ^ 62) ≤ j ∧ j < 2 ^ 62 ∧ R (Itr 0 j.toNat) H1
def iRng2 (ta : TA) : TI := fun σ H R => ta σ H fun vs H1 => ∃ i j : Int, vs = [.int i, .int j] ∧ (-(2 ^ 62) ≤ i ∧ i < 2 ^ 62 ∧ -(2 ^ 62) ≤ j ∧ j < 2 ^ 62) ∧ R (Itr i (j - i).toNat) H1
theorem pi_range1 {a : Expr} {ta : TA} {p pos : Pos} (hg : Gl X "range") (hm : X.mg "range" = none) (ha : PA X [a] ta) (hs : starEach [a] X.env = [(false, eval a X.env)] := by rfl) : PI X tg (.Call (.Name "range" p) [a] [] pos) (iRng1 ta) := by
  intro pins s σ H R I h
  refine Call_ (ld_blt I hg hm boot_range (PyProof.Rows.callWith_type1 (thn (ha pos pins s σ H _ I h) fun us s1 ⟨vs, H1, I1, r1, q1⟩ => ?_) hs rfl))
  obtain ⟨j, e, q1, q2, q⟩ := q1
  subst e
  cases r1 with
  | cons r rr =>
    cases rr
    obtain ⟨t, rfl⟩ := r
    exact call_range_1 (range_it I1 (by omega) (by omega) q1 q2 (by simpa using q))
theorem pi_range2 {a b : Expr} {ta : TA} {p pos : Pos} (hg : Gl X "range") (hm : X.mg "range" = none) (ha : PA X [a, b] ta) (hs : starEach [a, b] X.env = [(false, eval a X.env), (false, eval b X.env)] := by rfl) (hs2 : starEach [b] X.env = [(false, eval b X.env)] := by rfl) :
    PI X tg (.Call (.Name "range" p) [a, b] [] pos) (iRng2 ta) := by
  intro pins s σ H R I h
  refine Call_ (ld_blt I hg hm boot_range (PyProof.Rows.callWith_type1 (thn (ha pos pins s σ H _ I h) fun us s1 ⟨vs, H1, I1, r1, q1⟩ => ?_) (by rw [hs, hs2]) (by rw [hs2]; rfl)))
  obtain ⟨i, j, e, ⟨q1, q2, q3, q4⟩, q⟩ := q1
  subst e
  cases r1 with
  | cons r rr =>
    cases rr with
    | cons r' rr =>
      cases rr
      obtain ⟨t, rfl⟩ := r
      obtain ⟨t', rfl⟩ := r'
      exact call_range_2 (range_it I1 q1 q2 q3 q4 q)
def tFor (wi : TI) (g : TG) (tb : TS) : TS := fun D σ H => wi σ H fun J H1 => ∃ W : Nat → Nat → St → Hp → Prop, (∃ m, W 0 m σ H1) ∧ ∀ i m σ H, W i m σ H →
  (J.stop i H ∧ D.nx σ H) ∨ (J.go i H ∧ ∃ N : St → Hp → Prop, (∀ σ' H', N σ' H' → ∃ m', m' < m ∧ W (i + 1) m' σ' H') ∧ ∀ x H', J.yld i H x H' → g x σ H' fun σ2 H2 => tb { D with nx := N, ct := N, bk := D.nx } σ2 H2)
def pinsAt (fp : List Addr) (h : Heap) : List (Addr × Obj) := fp.filterMap fun b => (h.get? b).map fun o => (b, o)
theorem mem_pinsAt {fp : List Addr} {h : Heap} {b : Addr} {o : Obj} (hb : b ∈ fp) (e : h.get? b = some o) : (b, o) ∈ pinsAt fp h := List.mem_filterMap.mpr ⟨b, hb, by rw [e]; rfl⟩
theorem of_pinsAt {fp : List Addr} {h : Heap} {p : Addr × Obj} (hp : p ∈ pinsAt fp h) : p.1 ∈ fp ∧ h.get? p.1 = some p.2 := by
  obtain ⟨b, hb, e⟩ := List.mem_filterMap.mp hp
  cases q : h.get? b with
  | none => rw [q] at e; cases e
  | some o =>
    rw [q] at e
    have e' : (b, o) = p := Option.some.inj e
    subst e'
    exact ⟨hb, q⟩
theorem Inv.pinned {pins : List (Addr × Obj)} {σ : St} {H : Hp} {s : Shared} {fp : List Addr} (I : Inv X pins σ H s) (hf : ∀ b ∈ fp, FpOk X pins H b) (ho : ∀ b ∈ fp, ∃ o, s.heap.get? b = some o ∧ ∀ v, o.data ≠ .cell v) : Inv X (pins ++ pinsAt fp s.heap) σ H s :=
  I.pins_of fun p hp => (List.mem_append.mp hp).elim (fun z => I.pin p (List.mem_append_right _ z)) fun z => by
    obtain ⟨hb, e⟩ := of_pinsAt z
    obtain ⟨f0, f1, f2, _⟩ := hf p.1 hb
    obtain ⟨o, e', d⟩ := ho p.1 hb
    rw [e] at e'; cases e'
    exact ⟨e, f0, f1, f2, d⟩
theorem Inv.unpinned {pins pl : List (Addr × Obj)} {σ : St} {H : Hp} {s : Shared} (I : Inv X (pins ++ pl) σ H s) : Inv X pins σ H s := I.pins_of fun p hp => I.pin p (List.mem_append_right _ (List.mem_append_left _ hp))
theorem ps_for {iter : Expr} {body : List Stmt} {wi : TI} {g : TG} {tb : TS} {pos : Pos} (hp : PassesOwn (model X.prog X.w) X.A X.env X.xe) (hc : X.calm = true) (hi : PI X tg iter wi) (hg : PG X tg g) (hb : PSs X body tb)
    (hs : ∀ x, foldedSetIterable iter X.env x = pure x := by intro _; rfl) : PS X (.For tg iter body [] pos) (tFor wi g tb) := by
  intro pins s σ H D I h
  refine wpAny_For (thn (hi pins s σ H _ I h) fun v s1 h1 => thn h1 fun itv s2 h2 => ?_) hs
  obtain ⟨it, fp, tn, J, H2, e, I2, T, st2, f2, W, ⟨m0, w0⟩, turn⟩ := h2
  subst e
  -- what stays true of the iterator's objects through the loop
  have stat : ∀ {H' : Hp}, (∀ b ∈ fp, H' b = none) → ∀ b ∈ fp, FpOk X pins H' b := fun hn b hb => ⟨hn b hb, (f2 b hb).2⟩
  refine codeAny_forLoop_any (fun n s' => ∃ i σ' H', Inv X pins σ' H' s' ∧ tn i s'.heap ∧ (∀ b ∈ fp, H' b = none) ∧ W i n σ' H') ?_ m0 ⟨0, σ, H2, I2, st2, fun b hb => (f2 b hb).1, w0⟩
  rintro n s3 ⟨i, σ3, H3, I3, st3, fr3, w3⟩
  rcases turn i n σ3 H3 w3 with ⟨stop, qn⟩ | ⟨go, N, hN, step⟩
  · refine wpAny_passesOwn hp (thn (T.done X rfl rfl rfl hc i pins s3 σ3 H3 X.xe I3 (stat fr3) st3 stop) fun r s4 ⟨hr, I4⟩ => ?_)
    subst hr
    exact wpAny_execs_nil ⟨σ3, H3, I4, qn⟩
  · refine wpAny_passesOwn hp (thn (T.item X rfl rfl rfl hc i pins s3 σ3 H3 X.xe I3 (stat fr3) st3 go) fun r s4 ⟨u, hr, h4⟩ => ?_)
    subst hr
    refine wpAny_passesOwn hp (thn h4 fun _ s5 ⟨x, H5, I5, r5, y5, st5, fr5⟩ => ?_)
    have I5' := I5.pinned (stat fr5) (T.obj _ _ st5)
    refine wpAny_passesOwn hp (thn (hg _ s5 σ3 H5 x u _ I5' r5 (step x H5 y5)) fun _ s6 ⟨σ6, H6, I6, q6⟩ => ?_)
    refine wpAny_passesOwn hp (thn (hb _ s6 σ6 H6 _ I6 q6) fun f s7 q7 => ?_)
    have again : ∀ {σ7 : St} {H7 : Hp}, Inv X (pins ++ pinsAt fp s5.heap) σ7 H7 s7 → N σ7 H7 → ∃ m, m < n ∧ ∃ i σ' H', Inv X pins σ' H' s7 ∧ tn i s7.heap ∧ (∀ b ∈ fp, H' b = none) ∧ W i m σ' H' := fun {σ7 H7} I7 n7 => by
      obtain ⟨m', hm, w7⟩ := hN σ7 H7 n7
      refine ⟨m', hm, i + 1, σ7, H7, I7.unpinned, T.keep _ _ _ st5 fun b hb o e => (I7.pin (b, o) (List.mem_append_right _ (List.mem_append_right _ (mem_pinsAt hb e)))).1, fun b hb => ?_, w7⟩
      obtain ⟨o, e, d⟩ := T.obj _ _ st5 b hb
      exact (I7.pin (b, o) (List.mem_append_right _ (List.mem_append_right _ (mem_pinsAt hb e)))).2.1
    cases f with
    | next => obtain ⟨σ7, H7, I7, n7⟩ := q7; exact again I7 n7
    | cont => obtain ⟨σ7, H7, I7, n7⟩ := q7; exact again I7 n7
    | brk => obtain ⟨σ7, H7, I7, q7⟩ := q7; exact ⟨σ7, H7, I7.unpinned, q7⟩
    | ret v => obtain ⟨x7, σ7, H7, I7, r7, q7⟩ := q7; exact ⟨x7, σ7, H7, I7.unpinned, r7, q7⟩
end
theorem for_list {K : PySem.W.Frag} {a : Addr} {xs : List V} {g : TG} {tb : TS} {D : Ends} {σ : St} {H : Hp} (Pv : Nat → St → Hp → Prop) (h0 : Pv 0 σ H) (hl : ∀ i σ H, i ≤ xs.length → Pv i σ H → SqL K H a xs)
    (hs : ∀ i x σ H, xs[i]? = some x → Pv i σ H → g x σ H fun σ2 H2 => tb { D with nx := Pv (i + 1), ct := Pv (i + 1), bk := D.nx } σ2 H2) (hd : ∀ σ H, Pv xs.length σ H → D.nx σ H) :
    ∃ W : Nat → Nat → St → Hp → Prop, (∃ m, W 0 m σ H) ∧ ∀ i m σ H, W i m σ H →
      ((Itl K a).stop i H ∧ D.nx σ H) ∨ ((Itl K a).go i H ∧ ∃ N : St → Hp → Prop, (∀ σ' H', N σ' H' → ∃ m', m' < m ∧ W (i + 1) m' σ' H') ∧ ∀ x H', (Itl K a).yld i H x H' → g x σ H' fun σ2 H2 => tb { D with nx := N, ct := N, bk := D.nx } σ2 H2) := by
  refine ⟨fun i m σ H => m = xs.length - i ∧ i ≤ xs.length ∧ Pv i σ H, ⟨xs.length, by simp, Nat.zero_le _, h0⟩, ?_⟩
  rintro i m σ H ⟨rfl, hi, p⟩
  have q := hl i σ H hi p
  by_cases hlt : i < xs.length
  · refine .inr ⟨⟨xs, xs[i], q, by simp [hlt]⟩, Pv (i + 1), fun σ' H' p' => ⟨xs.length - (i + 1), by omega, rfl, hlt, p'⟩, fun x H' y => ?_⟩
    obtain ⟨e, y⟩ := y
    subst e
    exact hs i x σ _ (y xs q) p
  · have e : i = xs.length := by omega
    subst e
    exact .inl ⟨⟨xs, q, Nat.le_refl _⟩, hd σ H p⟩
theorem for_tup {K : PySem.W.Frag} {a : Addr} {xs : List V} {g : TG} {tb : TS} {D : Ends} {σ : St} {H : Hp} (Pv : Nat → St → Hp → Prop) (h0 : Pv 0 σ H) (hl : ∀ i σ H, i ≤ xs.length → Pv i σ H → SqT K H a xs)
    (hs : ∀ i x σ H, xs[i]? = some x → Pv i σ H → g x σ H fun σ2 H2 => tb { D with nx := Pv (i + 1), ct := Pv (i + 1), bk := D.nx } σ2 H2) (hd : ∀ σ H, Pv xs.length σ H → D.nx σ H) :
    ∃ W : Nat → Nat → St → Hp → Prop, (∃ m, W 0 m σ H) ∧ ∀ i m σ H, W i m σ H →
      ((Itt K a).stop i H ∧ D.nx σ H) ∨ ((Itt K a).go i H ∧ ∃ N : St → Hp → Prop, (∀ σ' H', N σ' H' → ∃ m', m' < m ∧ W (i + 1) m' σ' H') ∧ ∀ x H', (Itt K a).yld i H x H' → g x σ H' fun σ2 H2 => tb { D with nx := N, ct := N, bk := D.nx } σ2 H2) := by
  refine ⟨fun i m σ H => m = xs.length - i ∧ i ≤ xs.length ∧ Pv i σ H, ⟨xs.length, by simp, Nat.zero_le _, h0⟩, ?_⟩
  rintro i m σ H ⟨rfl, hi, p⟩
  have q := hl i σ H hi p
  by_cases hlt : i < xs.length
  · refine .inr ⟨⟨xs, xs[i], q, by simp [hlt]⟩, Pv (i + 1), fun σ' H' p' => ⟨xs.length - (i + 1), by omega, rfl, hlt, p'⟩, fun x H' y => ?_⟩
    obtain ⟨e, y⟩ := y
    subst e
    exact hs i x σ _ (y xs q) p
  · have e : i = xs.length := by omega
    subst e
    exact .inl ⟨⟨xs, q, Nat.le_refl _⟩, hd σ H p⟩
theorem for_range {lo : Int} {n : Nat} {g : TG} {tb : TS} {D : Ends} {σ : St} {H : Hp} (Pv : Nat → St → Hp → Prop) (h0 : Pv 0 σ H)
    (hs : ∀ i σ H, i < n → Pv i σ H → g (.int (lo + i)) σ H fun σ2 H2 => tb { D with nx := Pv (i + 1), ct := Pv (i + 1), bk := D.nx } σ2 H2) (hd : ∀ σ H, Pv n σ H → D.nx σ H) :
    ∃ W : Nat → Nat → St → Hp → Prop, (∃ m, W 0 m σ H) ∧ ∀ i m σ H, W i m σ H →
      ((Itr lo n).stop i H ∧ D.nx σ H) ∨ ((Itr lo n).go i H ∧ ∃ N : St → Hp → Prop, (∀ σ' H', N σ' H' → ∃ m', m' < m ∧ W (i + 1) m' σ' H') ∧ ∀ x H', (Itr lo n).yld i H x H' → g x σ H' fun σ2 H2 => tb { D with nx := N, ct := N, bk := D.nx } σ2 H2) := by
  refine ⟨fun i m σ H => m = n - i ∧ i ≤ n ∧ Pv i σ H, ⟨n, by simp, Nat.zero_le _, h0⟩, ?_⟩
  rintro i m σ H ⟨rfl, hi, p⟩
  by_cases hlt : i < n
  · refine .inr ⟨hlt, Pv (i + 1), fun σ' H' p' => ⟨n - (i + 1), by omega, rfl, hlt, p'⟩, fun x H' y => ?_⟩
    obtain ⟨e, y⟩ := y
    subst e y
    exact hs i σ _ hlt p
  · have e : i = n := by omega
    subst e
    exact .inl ⟨Nat.le_refl _, hd σ H p⟩
theorem while_by {c : TT} {tb : TS} {D : Ends} {σ : St} {H : Hp} (Pv : St → Hp → Prop) (μ : St → Hp → Nat) (h0 : Pv σ H)
    (hs : ∀ σ H, Pv σ H → c σ H fun b H1 => if b = true then tb { D with nx := fun σ' H' => Pv σ' H' ∧ μ σ' H' < μ σ H, ct := fun σ' H' => Pv σ' H' ∧ μ σ' H' < μ σ H, bk := D.nx } σ H1 else D.nx σ H1)
    (mono : ∀ σ H Q Q', (∀ b H1, Q b H1 → Q' b H1) → c σ H Q → c σ H Q') : tWhile c tb D σ H := by
  refine ⟨fun m σ H => m = μ σ H ∧ Pv σ H, ⟨_, rfl, h0⟩, ?_⟩
  rintro m σ H ⟨rfl, p⟩
  refine mono σ H _ _ (fun b H1 q => ?_) (hs σ H p)
  cases b with
  | true => exact ⟨_, fun σ' H' ⟨p', l⟩ => ⟨_, l, rfl, p'⟩, q⟩
  | false => exact q
end L2
namespace L2
open PySem PySem.Spec PyProof.Rows
abbrev R2 := V → V → Hp → VK → Prop
def OpR (X : Cx) (f : Value → Value → Sem Value) (r : R2) : Prop :=
  ∀ (pins : List (Addr × Obj)) (s : Shared) (σ : St) (H : Hp) (x y : V) (v u : Value) (Q : VK), Inv X pins σ H s → RelV x v → RelV y u → r x y H Q →
    wpAny (model X.prog X.w) X.A (f v u) (EP X pins σ Q) X.xe s
def UnR (X : Cx) (f : Value → Sem Value) (r : V → Hp → VK → Prop) : Prop :=
  ∀ (pins : List (Addr × Obj)) (s : Shared) (σ : St) (H : Hp) (x : V) (v : Value) (Q : VK), Inv X pins σ H s → RelV x v → r x H Q →
    wpAny (model X.prog X.w) X.A (f v) (EP X pins σ Q) X.xe s
def CallR (X : Cx) (f : Value) (r : List V → Hp → VK → Prop) : Prop :=
  ∀ (pins : List (Addr × Obj)) (s : Shared) (σ : St) (H : Hp) (xs : List V) (us : List Value) (Q : VK), Inv X pins σ H s → Vals xs us → r xs H Q →
    wpAny (model X.prog X.w) X.A (call f us) (EP X pins σ Q) X.xe s
def tOp (r : R2) (ta tb : TE) : TE := fun σ H Q => ta σ H fun x H1 => tb σ H1 fun y H2 => r x y H2 Q
def tUn (r : V → Hp → VK → Prop) (ta : TE) : TE := fun σ H Q => ta σ H fun x H1 => r x H1 Q
def rI (C : Int → Int → Prop) (g : Int → Int → V) : R2 := fun x y H Q => ∃ i j, x = .int i ∧ y = .int j ∧ C i j ∧ Q (g i j) H
def rI0 (g : Int → Int → V) : R2 := fun x y H Q => ∃ i j, x = .int i ∧ y = .int j ∧ Q (g i j) H
def rU (g : Int → V) : V → Hp → VK → Prop := fun x H Q => ∃ i, x = .int i ∧ Q (g i) H
section
variable {X : Cx} {a b c : Expr} {ta tb tc : TE} {pos : Pos}
theorem binT (ha : PE X a ta) (hb : PE X b tb) {pins : List (Addr × Obj)} {s : Shared} {σ : St} {H : Hp} {R : V → V → Hp → Prop} (I : Inv X pins σ H s)
    (h : ta σ H fun x H1 => tb σ H1 fun y H2 => R x y H2) {Q : Value → Shared → Prop} {f : Value → Value → Sem Value}
    (hf : ∀ v u s2 x y H2, Inv X pins σ H2 s2 → RelV x v → RelV y u → R x y H2 → wpAny (model X.prog X.w) X.A (f v u) Q X.xe s2) :
    wpAny (model X.prog X.w) X.A (eval a X.env) (fun v s₁ => wpAny (model X.prog X.w) X.A (eval b X.env) (fun u s₂ => wpAny (model X.prog X.w) X.A (f v u) Q X.xe s₂) X.xe s₁) X.xe s := by
  refine thn (ha pins s σ H _ I h) fun v s1 ⟨x, H1, I1, r1, q1⟩ => ?_
  refine thn (hb pins s1 σ H1 _ I1 q1) fun u s2 ⟨y, H2, I2, r2, q2⟩ => ?_
  exact hf v u s2 x y H2 I2 r1 r2 q2
theorem pe_op {op : Operator} {r : R2} (ho : OpR X (binaryOp op) r) (ha : PE X a ta) (hb : PE X b tb) : PE X (.BinOp a op b pos) (tOp r ta tb) := by
  intro pins s σ H Q I h
  exact wpAny_BinOp (binT ha hb I h fun v u s2 x y H2 I2 rx ry q => ho pins s2 σ H2 x y v u Q I2 rx ry q)
theorem pe_un {op : UnaryOp} {r : V → Hp → VK → Prop} (ho : UnR X (unaryOp op) r) (ha : PE X a ta) : PE X (.UnaryOp op a pos) (tUn r ta) := by
  intro pins s σ H Q I h
  exact UnaryOp_ (thn (ha pins s σ H _ I h) fun v s1 ⟨x, H1, I1, r1, q1⟩ => ho pins s1 σ H1 x v Q I1 r1 q1)
theorem opI {f : Value → Value → Sem Value} {C : Int → Int → Prop} {g : Int → Int → Int}
    (rule : ∀ (i j : Int) (t u : Tok) (s : Shared) (Q : Value → Shared → Prop) (E : Value → Shared → Prop), C i j → Q (.int (g i j) s.toks) { s with toks := s.toks + 1 } → wpAny (model X.prog X.w) X.A (f (.int i t) (.int j u)) Q E s) :
    OpR X f (rI C fun i j => .int (g i j)) := by
  intro pins s σ H x y v u Q I rx ry h
  obtain ⟨i, j, rfl, rfl, hc, q⟩ := h
  obtain ⟨t, rfl⟩ := rx
  obtain ⟨t', rfl⟩ := ry
  exact rule i j t t' s _ _ hc ⟨.int (g i j), H, I.tok _, ⟨_, rfl⟩, q⟩
theorem opI0 {f : Value → Value → Sem Value} {g : Int → Int → Int}
    (rule : ∀ (i j : Int) (t u : Tok) (s : Shared) (Q : Value → Shared → Prop) (E : Value → Shared → Prop), Q (.int (g i j) s.toks) { s with toks := s.toks + 1 } → wpAny (model X.prog X.w) X.A (f (.int i t) (.int j u)) Q E s) :
    OpR X f (rI0 fun i j => .int (g i j)) := by
  intro pins s σ H x y v u Q I rx ry h
  obtain ⟨i, j, rfl, rfl, q⟩ := h
  obtain ⟨t, rfl⟩ := rx
  obtain ⟨t', rfl⟩ := ry
  exact rule i j t t' s _ _ ⟨.int (g i j), H, I.tok _, ⟨_, rfl⟩, q⟩
theorem opB0 {f : Value → Value → Sem Value} {g : Int → Int → Bool}
    (rule : ∀ (i j : Int) (t u : Tok) (s : Shared) (Q : Value → Shared → Prop) (E : Value → Shared → Prop), Q (.bool (g i j)) s → wpAny (model X.prog X.w) X.A (f (.int i t) (.int j u)) Q E s) :
    OpR X f (rI0 fun i j => .bl (g i j)) := by
  intro pins s σ H x y v u Q I rx ry h
  obtain ⟨i, j, rfl, rfl, q⟩ := h
  obtain ⟨t, rfl⟩ := rx
  obtain ⟨t', rfl⟩ := ry
  exact rule i j t t' s _ _ ⟨.bl (g i j), H, I, rfl, q⟩
def CDiv (i j : Int) : Prop := 0 < j ∧ j < 1073741824
def CPow (i j : Int) : Prop := 0 ≤ j ∧ j ≤ 1000000 ∧ i.natAbs < 2 ^ 64
def CMul (i j : Int) : Prop := (-(2 ^ 64) < i ∧ i < 2 ^ 64) ∨ (-(2 ^ 64) < j ∧ j < 2 ^ 64)
theorem CMul.ok {i j : Int} (h : CMul i j) : IntMulOk i j := by
  rcases h with ⟨h1, h2⟩ | ⟨h1, h2⟩
  · exact .of_left (intBits_le_64 h1 h2)
  · exact .of_right (intBits_le_64 h1 h2)
theorem op_add : OpR X (binaryOp .Add) (rI0 fun i j => .int (i + j)) := opI0 fun _ _ _ _ _ _ _ q => add_int q
theorem op_sub : OpR X (binaryOp .Sub) (rI0 fun i j => .int (i - j)) := opI0 fun _ _ _ _ _ _ _ q => sub_int q
theorem op_mul : OpR X (binaryOp .Mult) (rI CMul fun i j => .int (i * j)) := opI fun _ _ _ _ _ _ _ hc q => mul_int q hc.ok
theorem op_fdiv : OpR X (binaryOp .FloorDiv) (rI CDiv fun i j => .int (i / j)) := opI fun i j _ _ _ _ _ hc q => by
  have h1 : (0 : Int) < j := hc.1
  have h2 : j < 1073741824 := hc.2
  exact floordiv_int (by omega) (by rw [Int.fdiv_eq_ediv_of_nonneg i (by omega)]; exact q) (.inl (PyProof.noPylong_small (by omega)))
theorem op_mod : OpR X (binaryOp .Mod) (rI (fun _ j => 0 < j) fun i j => .int (i % j)) := opI fun i j _ _ _ _ _ hc q => by
  have h1 : (0 : Int) < j := hc
  exact mod_int' (by omega) (by rw [Int.fmod_eq_emod_of_nonneg i (by omega)]; exact q)
theorem op_pow : OpR X (binaryOp .Pow) (rI CPow fun i j => .int (i ^ j.toNat)) := opI fun _ _ _ _ _ _ _ hc q => pow_int_small hc.1 hc.2.1 hc.2.2 q
theorem unI {f : Value → Sem Value} {g : Int → Int}
    (rule : ∀ (i : Int) (t : Tok) (s : Shared) (Q : Value → Shared → Prop) (E : Value → Shared → Prop), Q (.int (g i) s.toks) { s with toks := s.toks + 1 } → wpAny (model X.prog X.w) X.A (f (.int i t)) Q E s) :
    UnR X f (rU fun i => .int (g i)) := by
  intro pins s σ H x v Q I rx h
  obtain ⟨i, rfl, q⟩ := h
  obtain ⟨t, rfl⟩ := rx
  exact rule i t s _ _ ⟨.int (g i), H, I.tok _, ⟨_, rfl⟩, q⟩
theorem un_neg : UnR X (unaryOp .USub) (rU fun i => .int (-i)) := unI fun _ _ _ _ _ q => neg_int q
end
def scal : V → V → Bool
  | .non, .non => true | .non, .int _ => true | .int _, .non => true | .non, .bl _ => true | .bl _, .non => true | .non, .str _ => true | .str _, .non => true
  | .int _, .int _ => true | .bl _, .bl _ => true | .str _, .str _ => true | .byt _, .byt _ => true
  | .int _, .str _ => true | .str _, .int _ => true | .bl _, .str _ => true | .str _, .bl _ => true
  | _, _ => false
def rEq : R2 := fun x y H Q => scal x y = true ∧ Q (.bl (decide (x = y))) H
def rNe : R2 := fun x y H Q => scal x y = true ∧ Q (.bl (!decide (x = y))) H
theorem dec_int {i j : Int} : decide (V.int i = V.int j) = (i == j) := by
  rw [Bool.eq_iff_iff]
  simp
theorem dec_bl {i j : Bool} : decide (V.bl i = V.bl j) = (i == j) := by
  rw [Bool.eq_iff_iff]
  simp
theorem dec_str {i j : Str} : decide (V.str i = V.str j) = (i == j) := by
  rw [Bool.eq_iff_iff]
  simp
theorem dec_byt {i j : Array UInt8} : decide (V.byt i = V.byt j) = (i.toList == j.toList) := by
  rw [Bool.eq_iff_iff]
  cases i
  cases j
  simp
section
variable {X : Cx} {a b c : Expr} {ta tb tc : TE} {pos : Pos}
theorem fin_bl {pins : List (Addr × Obj)} {σ : St} {H : Hp} {s : Shared} {Q : VK} {k k' : Bool} (I : Inv X pins σ H s) (q : Q (.bl k) H) (e : k = k') : EP X pins σ Q (.bool k') s := by
  subst e
  exact ⟨.bl k, H, I, rfl, q⟩
theorem op_eq : OpR X (compareOp .Eq) rEq := by
  intro pins s σ H x y v u Q I rx ry h
  obtain ⟨hs, q⟩ := h
  cases x with
  | non =>
    cases rx
    cases y with
    | non => cases ry; exact PySem.EqNone.eq_none_none (fin_bl I q (by simp))
    | bl j => cases ry; exact PySem.EqNone.eq_none_bool (fin_bl I q (by simp))
    | int j => obtain ⟨t', rfl⟩ := ry; exact PySem.EqNone.eq_none_int (fin_bl I q (by simp))
    | str j => obtain ⟨t', rfl⟩ := ry; exact PySem.EqNone.eq_none_str (fin_bl I q (by simp))
    | _ => exact absurd (show false = true from hs) Bool.false_ne_true
  | bl i =>
    cases rx
    cases y with
    | non => cases ry; exact PySem.EqNone.eq_bool_none (fin_bl I q (by simp))
    | bl j => cases ry; exact eq_bool (fin_bl I q dec_bl)
    | str j => obtain ⟨t', rfl⟩ := ry; exact PySem.EqMixed.eq_bool_str (fin_bl I q (by simp))
    | _ => exact absurd (show false = true from hs) Bool.false_ne_true
  | int i =>
    obtain ⟨t, rfl⟩ := rx
    cases y with
    | non => cases ry; exact PySem.EqNone.eq_int_none (fin_bl I q (by simp))
    | int j => obtain ⟨t', rfl⟩ := ry; exact eq_int (fin_bl I q dec_int)
    | str j => obtain ⟨t', rfl⟩ := ry; exact PySem.EqMixed.eq_int_str (fin_bl I q (by simp))
    | _ => exact absurd (show false = true from hs) Bool.false_ne_true
  | str i =>
    obtain ⟨t, rfl⟩ := rx
    cases y with
    | non => cases ry; exact PySem.EqNone.eq_str_none (fin_bl I q (by simp))
    | bl j => cases ry; exact PySem.EqMixed.eq_str_bool (fin_bl I q (by simp))
    | int j => obtain ⟨t', rfl⟩ := ry; exact PySem.EqMixed.eq_str_int (fin_bl I q (by simp))
    | str j => obtain ⟨t', rfl⟩ := ry; exact eq_str (fin_bl I q dec_str)
    | _ => exact absurd (show false = true from hs) Bool.false_ne_true
  | byt i =>
    obtain ⟨t, rfl⟩ := rx
    cases y with
    | byt j => obtain ⟨t', rfl⟩ := ry; exact PySem.W.eq_bytes (fin_bl I q dec_byt)
    | _ => exact absurd (show false = true from hs) Bool.false_ne_true
  | _ => cases y <;> exact absurd (show false = true from hs) Bool.false_ne_true
theorem op_ne : OpR X (compareOp .NotEq) rNe := by
  intro pins s σ H x y v u Q I rx ry h
  obtain ⟨hs, q⟩ := h
  cases x with
  | non =>
    cases rx
    cases y with
    | non => cases ry; exact PySem.EqNone.ne_none_none (fin_bl I q (by simp))
    | bl j => cases ry; exact PySem.EqNone.ne_none_bool (fin_bl I q (by simp))
    | int j => obtain ⟨t', rfl⟩ := ry; exact PySem.EqNone.ne_none_int (fin_bl I q (by simp))
    | str j => obtain ⟨t', rfl⟩ := ry; exact PySem.EqNone.ne_none_str (fin_bl I q (by simp))
    | _ => exact absurd (show false = true from hs) Bool.false_ne_true
  | bl i =>
    cases rx
    cases y with
    | non => cases ry; exact PySem.EqNone.ne_bool_none (fin_bl I q (by simp))
    | bl j => cases ry; exact ne_bool (fin_bl I q (congrArg not dec_bl))
    | str j => obtain ⟨t', rfl⟩ := ry; exact PySem.EqMixed.ne_bool_str (fin_bl I q (by simp))
    | _ => exact absurd (show false = true from hs) Bool.false_ne_true
  | int i =>
    obtain ⟨t, rfl⟩ := rx
    cases y with
    | non => cases ry; exact PySem.EqNone.ne_int_none (fin_bl I q (by simp))
    | int j => obtain ⟨t', rfl⟩ := ry; exact ne_int (fin_bl I q (congrArg not dec_int))
    | str j => obtain ⟨t', rfl⟩ := ry; exact PySem.EqMixed.ne_int_str (fin_bl I q (by simp))
    | _ => exact absurd (show false = true from hs) Bool.false_ne_true
  | str i =>
    obtain ⟨t, rfl⟩ := rx
    cases y with
    | non => cases ry; exact PySem.EqNone.ne_str_none (fin_bl I q (by simp))
    | bl j => cases ry; exact PySem.EqMixed.ne_str_bool (fin_bl I q (by simp))
    | int j => obtain ⟨t', rfl⟩ := ry; exact PySem.EqMixed.ne_str_int (fin_bl I q (by simp))
    | str j => obtain ⟨t', rfl⟩ := ry; exact ne_str (fin_bl I q (congrArg not dec_str))
    | _ => exact absurd (show false = true from hs) Bool.false_ne_true
  | byt i =>
    obtain ⟨t, rfl⟩ := rx
    cases y with
    | byt j => obtain ⟨t', rfl⟩ := ry; exact PySem.W.ne_bytes (fin_bl I q (congrArg not dec_byt))
    | _ => exact absurd (show false = true from hs) Bool.false_ne_true
  | _ => cases y <;> exact absurd (show false = true from hs) Bool.false_ne_true
theorem op_lt : OpR X (compareOp .Lt) (rI0 fun i j => .bl (decide (i < j))) := opB0 fun _ _ _ _ _ _ _ q => lt_int q
theorem op_le : OpR X (compareOp .LtE) (rI0 fun i j => .bl (decide (i ≤ j))) := opB0 fun _ _ _ _ _ _ _ q => le_int q
theorem op_gt : OpR X (compareOp .Gt) (rI0 fun i j => .bl (decide (j < i))) := opB0 fun _ _ _ _ _ _ _ q => gt_int q
theorem op_ge : OpR X (compareOp .GtE) (rI0 fun i j => .bl (decide (j ≤ i))) := opB0 fun _ _ _ _ _ _ _ q => ge_int q
theorem nomark (b : Expr) {op : CmpOp} (h : op ≠ .In := by decide) (h2 : op ≠ .NotIn := by decide) : behindInMarks op b = false := by
  have e1 : (op == CmpOp.In) = false := by cases op <;> first | rfl | exact absurd rfl h
  have e2 : (op == CmpOp.NotIn) = false := by cases op <;> first | rfl | exact absurd rfl h2
  cases b <;> simp [behindInMarks, e1, e2]
theorem pe_cmpR {op : CmpOp} {r : R2} (ho : OpR X (compareOp op) r) (ha : PE X a ta) (hb : PE X b tb) (hm : behindInMarks op b = false) : PE X (.Compare a [op] [b] pos) (tOp r ta tb) := by
  intro pins s σ H Q I h
  exact wpAny_Compare1 (binT ha hb I h fun v u s2 x y H2 I2 rx ry q => ho pins s2 σ H2 x y v u Q I2 rx ry q) hm
def tTest (t : TE) : TT := fun σ H Q => t σ H fun x H' => ∃ k, x = .bl k ∧ Q k H'
theorem pt_cmpR {op : CmpOp} {r : R2} (ho : OpR X (compareOp op) r) (ha : PE X a ta) (hb : PE X b tb) (hm : behindInMarks op b = false) : PT X (.Compare a [op] [b] pos) (tTest (tOp r ta tb)) := by
  intro pins s σ H Q I h
  refine wpAny_isTrue_Compare1 (thn (ha pins s σ H _ I h) fun v s1 ⟨x, H1, I1, r1, q1⟩ => thn (hb pins s1 σ H1 _ I1 q1) fun u s2 ⟨y, H2, I2, r2, q2⟩ =>
    thn (ho pins s2 σ H2 x y v u _ I2 r1 r2 q2) fun c s3 ⟨z, H3, I3, r3, k, e, q3⟩ => ?_) hm
  subst e
  cases r3
  exact wpAny_truthy_bool ⟨H3, I3, q3⟩
def tChain (r r' : R2) (ta tb tc : TE) : TE := fun σ H Q => ta σ H fun x H1 => tb σ H1 fun y H2 => r x y H2 fun z H3 => ∃ k, z = .bl k ∧
  (if k = true then tc σ H3 fun w' H4 => r' y w' H4 Q else Q (.bl false) H3)
theorem pt_chain {op op' : CmpOp} {r r' : R2} (ho : OpR X (compareOp op) r) (ho' : OpR X (compareOp op') r') (ha : PE X a ta) (hb : PE X b tb) (hc : PE X c tc)
    (hm : lastMarks [op, op'] [b, c] = false := by with_unfolding_all rfl) : PT X (.Compare a [op, op'] [b, c] pos) (tTest (tChain r r' ta tb tc)) := by
  intro pins s σ H Q I h
  refine isTrue_chain (thn (ha pins s σ H _ I h) fun v s1 ⟨x, H1, I1, r1, q1⟩ => test_link (thn (hb pins s1 σ H1 _ I1 q1) fun u s2 ⟨y, H2, I2, r2, q2⟩ =>
    thn (ho pins s2 σ H2 x y v u _ I2 r1 r2 q2) fun d s3 ⟨z, H3, I3, r3, k, e, q3⟩ => ?_)) hm
  subst e
  cases r3
  refine wpAny_truthy_bool ?_
  cases k with
  | false =>
    obtain ⟨k', e', q'⟩ := q3
    cases e'
    exact ite_ff ⟨H3, I3, q'⟩
  | true =>
    refine ite_tt (test_last (thn (hc pins s3 σ H3 _ I3 q3) fun w' s4 ⟨z', H4, I4, r4, q4⟩ => thn (ho' pins s4 σ H4 y z' u w' _ I4 r2 r4 q4) fun d' s5 ⟨z2, H5, I5, r5, k2, e2, q5⟩ => ?_))
    subst e2
    cases r5
    exact wpAny_truthy_bool ⟨H5, I5, q5⟩
theorem line63 : (sizeLine : Nat) < 2 ^ 63 := by rw [sizeLine_eq]; decide
theorem vals1 {x : V} {us : List Value} (r : Vals [x] us) : ∃ u, us = [u] ∧ RelV x u := by
  cases r with
  | cons r1 r2 => cases r2; exact ⟨_, rfl, r1⟩
theorem vals2 {x y : V} {us : List Value} (r : Vals [x, y] us) : ∃ u w', us = [u, w'] ∧ RelV x u ∧ RelV y w' := by
  cases r with
  | cons r1 r2 =>
    cases r2 with
    | cons r3 r4 => cases r4; exact ⟨_, _, rfl, r1, r3⟩
theorem call_abs : CallR X (.builtin "abs") (fun xs H Q => ∃ i, xs = [.int i] ∧ Q (.int (if i < 0 then -i else i)) H) := by
  intro pins s σ H xs us Q I r h
  obtain ⟨i, rfl, q⟩ := h
  obtain ⟨u, rfl, t, rfl⟩ := vals1 r
  exact call_abs_int fun u tk => ⟨.int (if i < 0 then -i else i), H, I.tok _, ⟨_, rfl⟩, q⟩
theorem call_max2 (hc : X.calm = true) : CallR X (.builtin "max") (fun xs H Q => ∃ i j, xs = [.int i, .int j] ∧ Q (.int (if j > i then j else i)) H) := by
  intro pins s σ H xs us Q I r h
  obtain ⟨i, j, rfl, q⟩ := h
  obtain ⟨u, w', rfl, ⟨t, rfl⟩, ⟨t', rfl⟩⟩ := vals2 r
  refine max_two_ints (I.ok.hd hc) fun h' tk k => ⟨_, H, I.kept k, ?_, q⟩
  by_cases hj : j > i
  · rw [if_pos hj, if_pos hj]; exact ⟨_, rfl⟩
  · rw [if_neg hj, if_neg hj]; exact ⟨_, rfl⟩
theorem call_min2 (hc : X.calm = true) : CallR X (.builtin "min") (fun xs H Q => ∃ i j, xs = [.int i, .int j] ∧ Q (.int (if j < i then j else i)) H) := by
  intro pins s σ H xs us Q I r h
  obtain ⟨i, j, rfl, q⟩ := h
  obtain ⟨u, w', rfl, ⟨t, rfl⟩, ⟨t', rfl⟩⟩ := vals2 r
  refine min_two_ints (I.ok.hd hc) fun h' tk k => ⟨_, H, I.kept k, ?_, q⟩
  by_cases hj : j < i
  · rw [if_pos hj, if_pos hj]; exact ⟨_, rfl⟩
  · rw [if_neg hj, if_neg hj]; exact ⟨_, rfl⟩
theorem call_int1 : CallR X (.type "int") (fun xs H Q => (∃ i, xs = [.int i] ∧ Q (.int i) H) ∨ ∃ k, xs = [.bl k] ∧ Q (.int (if k then 1 else 0)) H) := by
  intro pins s σ H xs us Q I r h
  rcases h with ⟨i, rfl, q⟩ | ⟨k, rfl, q⟩
  · obtain ⟨u, rfl, t, rfl⟩ := vals1 r
    exact call_int_int ⟨.int i, H, I, ⟨_, rfl⟩, q⟩
  · obtain ⟨u, rfl, r1⟩ := vals1 r
    cases r1
    exact call_int_bool ⟨.int (if k then 1 else 0), H, I.tok _, ⟨_, rfl⟩, q⟩
end
end L2
namespace L2
open PySem PySem.Spec PyProof.Rows
structure ObjM (h : Heap) (x dx C : Addr) (mA : Str → Option Value) : Prop where
  obj : h.get? x = some (PySem.W.instObj C dx)
  ns : h.Ns1 dx mA
  ne : dx ≠ x
theorem lookIn_ns {h : Heap} {dx : Addr} {mA : Str → Option Value} (n : h.Ns1 dx mA) : ∃ od, h.get? dx = some od ∧ ∀ name, PySem.W.lookIn name od = some (mA name) := by
  obtain ⟨o, es, ep, ho, hd, hk, _, hm⟩ := n
  refine ⟨o, ho, fun name => ?_⟩
  have e := hm name
  unfold nsFind findBy at e
  rw [← Array.find?_toList] at e
  unfold PySem.W.lookIn
  rw [hd]
  dsimp only
  split
  · rename_i y q
    rw [q] at e
    exact congrArg some e
  · rename_i q
    rw [q] at e
    have a : es.toList.any (·.refKey) = false := by
      rw [List.any_eq_false]
      intro y hy
      obtain ⟨z, t, hkey⟩ := hk y (Array.mem_toList_iff.mp hy)
      simp [DictEntry.refKey, hkey]
    have a' : ¬ es.toList.any (·.refKey) = true := by rw [a]; exact Bool.false_ne_true
    rw [if_neg a']
    exact congrArg some e
theorem ObjM.look {h : Heap} {x dx C : Addr} {mA : Str → Option Value} (I : ObjM h x dx C mA) : ∃ od, PySem.W.InstAt h x (PySem.W.instObj C dx) C (some od) ∧ ∀ name, PySem.W.lookIn name od = some (mA name) :=
  let ⟨od, ho, hl⟩ := lookIn_ns I.ns
  ⟨od, ⟨I.obj, rfl, rfl, ho⟩, hl⟩
section
variable {prog : Program} {w : World} {A : Around} {E : Value → Shared → Prop} {s : Shared} {K : PySem.W.Frag} {x dx C f : Addr} {mA : Str → Option Value} {name : Str} {v : Value}
end
section
variable {P : Program} {w : World} {H H' : Hp} {h h' : Heap} {a C dx : Addr} {fs fs' : List (Str × V)}
theorem ins_get (hok : HOk P w H h) (e : H a = some (.ins C dx fs)) : ∃ mA, ObjM h a dx C mA ∧ (∀ f, RelO (fs.lookup f) (mA f)) ∧ PySem.Within mA (fs.map (·.1)) ∧ fs.length ≤ 1000 ∧ H dx = some (.own a) := by
  obtain ⟨d, z, ne, ob, mA, n, r, q⟩ := (show ObjOk P w H h a (.ins C dx fs) from hok a _ e)
  exact ⟨mA, ⟨ob, n, ne⟩, r, q, z, d⟩
end
structure Cls (K : PySem.W.Frag) (C : Addr) : Prop where
  pg : PySem.W.plainGet K C Str.empty = true
  hd : PySem.W.hasDictIn K C = true
  po : PySem.W.plainOver K C = true
  sa : PySem.W.findIn K (.ref C) "__setattr__" = some (some (.builtin "object.__setattr__"))
theorem Cls.get {K : PySem.W.Frag} {C : Addr} (c : Cls K C) (f : Str) : PySem.W.plainGet K C f = true := c.pg
section
variable {X : Cx} {pins : List (Addr × Obj)} {σ : St} {H : Hp} {s : Shared} {a C dx : Addr} {fs : List (Str × V)} {f : Str} {v : V} {A : Around} {E : Value → Shared → Prop}
end
section
variable {X : Cx} {o e value : Expr} {f : Str} {pos pos' tpos : Pos} {ta tv : TE}
end
section
variable {X : Cx} {pins : List (Addr × Obj)} {σ : St} {H : Hp} {s : Shared} {A : Around} {E : Value → Shared → Prop} {Q : Value → Shared → Prop} {c : Value} {b : Bool}
inductive TyOf (K : PySem.W.Frag) (H : Hp) : V → Value → Prop where
  | non : TyOf K H .non (.type "NoneType")
  | bl (x : Bool) : TyOf K H (.bl x) (.type "bool")
  | int (i : Int) : TyOf K H (.int i) (.type "int")
  | str (x : Str) : TyOf K H (.str x) (.type "str")
  | flt (x : UInt64) : TyOf K H (.flt x) (.type "float")
  | lst {a : Addr} {xs : List V} (e : H a = some (.lst xs)) : TyOf K H (.ref a) (.type "list")
  | frz {a : Addr} {o : Obj} {xs : List V} (e : H a = some (.frz o (.lst xs))) : TyOf K H (.ref a) (.type "list")
  | tup {a : Addr} {xs : List V} (e : H a = some (.tup xs)) : TyOf K H (.ref a) (.type "tuple")
  | dK {a : Addr} {kvs : List (Key × V)} (e : H a = some (.dK kvs)) : TyOf K H (.ref a) (.type "dict")
  | dT {a : Addr} {kvs : List (List Key × V)} (e : H a = some (.dT kvs)) : TyOf K H (.ref a) (.type "dict")
  | ins {a C dx : Addr} {fs : List (Str × V)} (e : H a = some (.ins C dx fs)) (cl : Cls K C) (ha : PySem.W.findIn K (.ref C) "__class__" = some (some (.builtin "object.__class__")))
      (hn : PySem.W.specialIn K (.builtin "object.__class__") "__get__" = some (some (.builtin "getset_descriptor.__get__"))) (htk : PySem.W.takesIn K (.builtin "object.__class__") = some true)
      (hm : PySem.W.mroIn K C (.type "object") = some true) : TyOf K H (.ref a) (.ref C)
theorem isinst_ok {x : V} {u t : Value} (I : Inv X pins σ H s) (rx : RelV x u) (ty : TyOf X.K H x t) (e : PySem.W.kitOne X.K t c = some b) (h : ∀ tk, Q (.bool b) { s with toks := tk }) :
    wpAny (model X.prog X.w) A (call (.builtin "isinstance") [u, c]) Q E s := by
  cases ty with
  | non => cases (show u = Value.none from rx); exact PySem.W.kia_one PySem.W.kitx_none I.kIn True.intro e (fun z => nomatch z) h
  | bl y => cases (show u = Value.bool y from rx); exact PySem.W.kia_one PySem.W.kitx_bool I.kIn True.intro e (fun z => nomatch z) h
  | int i => obtain ⟨t, q⟩ := (show ∃ t, u = Value.int i t from rx); cases q; exact PySem.W.kia_one PySem.W.kitx_int I.kIn True.intro e (fun z => nomatch z) h
  | str y => obtain ⟨t, q⟩ := (show ∃ t, u = Value.str y t from rx); cases q; exact PySem.W.kia_one PySem.W.kitx_str I.kIn True.intro e (fun z => nomatch z) h
  | flt y => obtain ⟨t, q⟩ := (show ∃ t, u = Value.float y t from rx); cases q; exact PySem.W.kia_one PySem.W.kitx_float I.kIn True.intro e (fun z => nomatch z) h
  | @lst a xs ea =>
    cases (show u = Value.ref a from rx)
    obtain ⟨_, _, n, _, h1⟩ := (show ObjOk X.prog X.w H s.heap a (.lst xs) from I.hok a _ ea)
    exact PySem.W.kia_one PySem.W.kitx_list I.kIn ⟨_, h1, rfl⟩ e (fun z => nomatch z) h
  | @frz a ob xs ea =>
    cases (show u = Value.ref a from rx)
    obtain ⟨_, _, _, n, _, h1⟩ := (show ObjOk X.prog X.w H s.heap a (.frz ob (.lst xs)) from I.hok a _ ea)
    exact PySem.W.kia_one PySem.W.kitx_list I.kIn ⟨_, h1, rfl⟩ e (fun z => nomatch z) h
  | @tup a xs ea =>
    cases (show u = Value.ref a from rx)
    obtain ⟨_, _, _, p⟩ := (show ObjOk X.prog X.w H s.heap a (.tup xs) from I.hok a _ ea)
    obtain ⟨o, h1, h2, _⟩ := p
    exact PySem.W.kia_one PySem.W.kitx_tuple I.kIn ⟨o, h1, h2⟩ e (fun z => nomatch z) h
  | @dK a kvs ea =>
    cases (show u = Value.ref a from rx)
    obtain ⟨_, _, vs, _, p⟩ := (show ObjOk X.prog X.w H s.heap a (.dK kvs) from I.hok a _ ea)
    obtain ⟨o, es, ep, h1, h2, _⟩ := p
    exact PySem.W.kia_one PySem.W.kitx_dict I.kIn ⟨o, h1, h2.1⟩ e (fun z => nomatch z) h
  | @dT a kvs ea =>
    cases (show u = Value.ref a from rx)
    obtain ⟨_, _, xs, _, o, es, ep, h1, h2, _⟩ := (show ObjOk X.prog X.w H s.heap a (.dT kvs) from I.hok a _ ea)
    exact PySem.W.kia_one PySem.W.kitx_dict I.kIn ⟨o, h1, h2.1⟩ e (fun z => nomatch z) h
  | @ins a C dx fs ea cl ha hn htk hm =>
    cases (show u = Value.ref a from rx)
    obtain ⟨mA, O, _⟩ := ins_get I.hok ea
    obtain ⟨od, J, _⟩ := O.look
    exact PySem.W.kia_one (PySem.W.kitx_own (cl.get _) cl.hd ha hn htk hm) I.kIn J e (fun z => nomatch z) h
end
end L2
namespace L2
open PySem PySem.Spec PyProof.Rows
structure Room (k : Nat) (A : Around) : Prop where
  hd : A.handled = none
  dp : A.depth + 3 * k + 5 < recursionLimit
  un : A.units + 16 * k + 200 < cLine
  gd : A.guards = some []
theorem Room.mono {j k : Nat} {A : Around} (r : Room k A) (h : j ≤ k) : Room j A := ⟨r.hd, by have := r.dp; omega, by have := r.un; omega, r.gd⟩
theorem Room.deeper {k : Nat} {A : Around} (r : Room (k + 1) A) (env : Env) : Room k (A.deeper env) :=
  ⟨r.hd, by have := r.dp; show A.depth + 1 + 3 * k + 5 < _; omega, by have := r.un; show A.units + 3 + 16 * k + 200 < _; omega, r.gd⟩
theorem Room.in1 {k : Nat} {A : Around} (r : Room (k + 1) A) : Room k A.in1 :=
  ⟨r.hd, by have := r.dp; show A.depth + 3 * k + 5 < _; omega, by have := r.un; show A.units + 1 + 16 * k + 200 < _; omega, r.gd⟩
theorem Room.depth {k : Nat} {A : Around} (r : Room k A) : A.depth < recursionLimit := by have := r.dp; omega
theorem Room.units {k : Nat} {A : Around} (r : Room k A) : A.units + 64 < cLine := by have := r.un; omega
theorem Room.units0 {k : Nat} {A : Around} (r : Room k A) : A.units < cLine := by have := r.un; omega
def tNil : TA := fun _ H Q => Q [] H
def tCons (ta : TE) (tr : TA) : TA := fun σ H Q => ta σ H fun x H1 => tr σ H1 fun xs H2 => Q (x :: xs) H2
section
variable {X : Cx} {e : Expr} {es : List Expr} {te : TE} {t : TA} {pos : Pos}
theorem pa_nil : PA X [] tNil := fun _ _ _ _ H Q I h => Calls.spliced_nil ⟨[], H, I, .nil, h⟩
theorem pa_cons (ha : PE X e te) (hr : PA X es t) (hs : starEach (e :: es) X.env = (false, eval e X.env) :: starEach es X.env := by rfl) : PA X (e :: es) (tCons te t) := by
  intro pos pins s σ H Q I h
  rw [hs]
  show wpAny _ _ (spliced ((false, eval e X.env) :: backTo pos (starEach es X.env))) _ _ s
  refine Calls.spliced_cons (thn (ha pins s σ H _ I h) fun u s1 ⟨x, H1, I1, r1, q1⟩ => ?_)
  exact thn (hr pos pins s1 σ H1 _ I1 q1) fun us s2 ⟨xs, H2, I2, r2, q2⟩ => ⟨x :: xs, H2, I2, .cons r1 r2, q2⟩
def tTup (t : TA) : TE := fun σ H Q => t σ H fun xs H1 => xs.length ≤ sizeLine ∧ ∀ p, H1 p = none → Q (.ref p) (upd H1 p (.tup xs))
def tLst (t : TA) : TE := fun σ H Q => t σ H fun xs H1 => xs.length ≤ sizeLine ∧ ∀ p, H1 p = none → Q (.ref p) (upd H1 p (.lst xs))
theorem pe_tup {x1} (h : PA X es t) : PE X (.Tuple es x1 pos) (tTup t) := by
  intro pins s σ H Q I hq
  refine wpAny_Tuple_spliced (thn (h pos pins s σ H _ I hq) fun us s1 ⟨xs, H1, I1, r, z, q⟩ => ⟨by rw [← r.length]; exact z, ?_⟩)
  have hf : H1 s1.heap.objs.size = none := I1.hok.fresh (Nat.le_refl _)
  refine ⟨.ref s1.heap.objs.size, upd H1 s1.heap.objs.size (.tup xs), I1.laid (t' := s1.toks) (fun b u e => Heap.get?_push_of_some _ e) (Nat.le_refl _) ?_, rfl, q _ hf⟩
  exact ⟨z, us, r, ⟨_, Heap.get?_push_size _ rfl, rfl, _, rfl⟩⟩
theorem pe_lst (h : PA X es t) : PE X (.List es pos) (tLst t) := by
  intro pins s σ H Q I hq
  refine wpAny_List_spliced (thn (h pos pins s σ H _ I hq) fun us s1 ⟨xs, H1, I1, r, z, q⟩ => ⟨by rw [← r.length]; exact z, ?_⟩)
  have hf : H1 s1.heap.objs.size = none := I1.hok.fresh (Nat.le_refl _)
  refine ⟨.ref s1.heap.objs.size, upd H1 s1.heap.objs.size (.lst xs), I1.laid (t' := s1.toks) (fun b u e => Heap.get?_push_of_some _ e) (Nat.le_refl _) ?_, rfl, q _ hf⟩
  exact ⟨z, us, 0, r, Heap.get?_push_size _ rfl⟩
end
abbrev Sp := List V → Hp → VK → XK → Prop
abbrev CXT := List Env → Hp → Shared → XK → Value → Shared → Prop
structure Env0 (P : Program) (w : World) (K : PySem.W.Frag) (mg : Str → Option Value) (base : Heap) (A : Around) (outer : List Env) (s : Shared) (H : Hp) : Prop where
  frames : A.frames = some outer
  mod : Mod K mg base
  bs : ∀ b o, base.get? b = some o → s.heap.get? b = some o ∧ H b = none
  bsz : base.objs.size ≤ s.heap.objs.size
  funs : s.heap.FunFrames base outer
  frf : ∀ b ∈ frs outer, H b = none
  hok : HOk P w H s.heap
  bare : AllBare s.gens
def CE (outer : List Env) (P : Program) (w : World) (H : Hp) (s : Shared) (Q : VK) (u : Value) (s' : Shared) : Prop :=
  ∃ v H', s'.os = s.os ∧ AllBare s'.gens ∧ Un (frs outer) [] H H' s.heap s'.heap ∧ HOk P w H' s'.heap ∧ RelV v u ∧ Q v H'
def CR (CX : CXT) (outer : List Env) (P : Program) (w : World) (H : Hp) (s : Shared) (Q : VK) (E : XK) (r : Result) (s' : Shared) : Prop :=
  match r with
  | .ok (.ret u) => CE outer P w H s Q u s'
  | .ok _ => False
  | .error e => CX outer H s E e s'
structure FnOk (P : Program) (w : World) (K : PySem.W.Frag) (mg : Str → Option Value) (base : Heap) (CX : CXT) (k : Nat) (f : Addr) (fd : FuncData) (ps : List Str) (sp : Sp) : Prop where
  len : ∀ vs H Q E, sp vs H Q E → vs.length = ps.length
  run : ∀ (A : Around) (outer : List Env) (s : Shared) (H : Hp) (args : Args) (us : List Value) (vs : List V) (Q : VK) (E : XK), Room k A → Env0 P w K mg base A outer s H → BindsTo s fd args (ps.zip us) → Vals vs us → sp vs H Q E →
    codeAny (model P w) A (.call (.ref f) args) (CR CX outer P w H s Q E) s
theorem FnOk.mono {P : Program} {w : World} {K : PySem.W.Frag} {mg : Str → Option Value} {base : Heap} {CX : CXT} {j k : Nat} {f : Addr} {fd : FuncData} {ps : List Str} {sp : Sp} (F : FnOk P w K mg base CX j f fd ps sp) (h : j ≤ k) :
    FnOk P w K mg base CX k f fd ps sp := ⟨F.len, fun A outer s H args us vs Q E hr => F.run A outer s H args us vs Q E (hr.mono h)⟩
theorem FnOk.imp {P : Program} {w : World} {K : PySem.W.Frag} {mg : Str → Option Value} {base : Heap} {CX : CXT} {k : Nat} {f : Addr} {fd : FuncData} {ps : List Str} {sp sp' : Sp} (F : FnOk P w K mg base CX k f fd ps sp)
    (h : ∀ vs H Q E, sp' vs H Q E → sp vs H Q E) : FnOk P w K mg base CX k f fd ps sp' :=
  ⟨fun vs H Q E q => F.len vs H Q E (h _ _ _ _ q), fun A outer s H args us vs Q E hr he hb hv hs => F.run A outer s H args us vs Q E hr he hb hv (h _ _ _ _ hs)⟩
theorem Env0.in1 {P : Program} {w : World} {K : PySem.W.Frag} {mg : Str → Option Value} {base : Heap} {A : Around} {outer : List Env} {s : Shared} {H : Hp} (e : Env0 P w K mg base A outer s H) :
    Env0 P w K mg base A.in1 outer s H := ⟨e.frames, e.mod, e.bs, e.bsz, e.funs, e.frf, e.hok, e.bare⟩
section
variable {X : Cx} {pins : List (Addr × Obj)} {σ : St} {H : Hp} {s s' : Shared}
theorem Inv.env0 (I : Inv X pins σ H s) : Env0 X.prog X.w X.K X.mg X.base X.A X.stack s H :=
  ⟨I.ok.frames, I.ok.mod, I.bs, Nat.le_trans I.ok.bsz I.sz, I.stack, I.stkFree, I.hok, I.bare⟩
theorem Inv.after {Q : VK} {u : Value} (I : Inv X pins σ H s) (h : CE X.stack X.prog X.w H s Q u s') : EP X pins σ Q u s' := by
  obtain ⟨v, H', os, bare, un, hok, r, q⟩ := h
  obtain ⟨hh, g, d, t, os'⟩ := s'
  obtain rfl : os' = s.os := os
  exact ⟨v, H', I.call (h' := hh) (g' := g) (d' := d) (t' := t) (ch := []) un hok bare (fun b z => absurd z (by simp)), r, q⟩
end
def tCall (sp : Sp) (dvs : List V) (E : XK) (t : TA) : TE := fun σ H Q => t σ H fun vs H1 => sp (vs ++ dvs) H1 Q E
def Binds (K : PySem.W.Frag) (fd : FuncData) (ps : List Str) (ds : List Value) : Prop :=
  ∀ (s : Shared) (us : List Value), K.In s.heap → (us ++ ds).length = ps.length → BindsTo s fd ⟨us, []⟩ (ps.zip (us ++ ds))
theorem Binds.all {K : PySem.W.Frag} {fd : FuncData} {ps : List Str} (h : ∀ us : List Value, us.length = ps.length → bindArgs fd ⟨us, []⟩ = pure (ps.zip us)) : Binds K fd ps [] := fun s us _ hl => by
  rw [List.append_nil] at hl ⊢
  exact .of_eq (h us hl)
def Passes (CX : CXT) (X : Cx) (E : XK) : Prop := ∀ (pins : List (Addr × Obj)) (σ : St) (H : Hp) (s : Shared) (e : Value) (s' : Shared), Inv X pins σ H s → CX X.stack H s E e s' → X.xe e s'
section
variable {X : Cx} {CX : CXT} {k : Nat} {f C : Addr} {fd : FuncData} {ps : List Str} {sp : Sp} {dvs : List V} {ds : List Value} {E : XK} {x m : Str} {p pos apos : Pos} {e o : Expr} {es : List Expr} {ta : TE} {t : TA}
theorem run_fn {pins : List (Addr × Obj)} {σ : St} {H : Hp} {s : Shared} {Q : VK} {us : List Value} {vs : List V} (F : FnOk X.prog X.w X.K X.mg X.base CX k f fd ps sp) (hr : Room k X.A) (hb : Binds X.K fd ps ds) (hd : Vals dvs ds) (hx : Passes CX X E)
    (I : Inv X pins σ H s) (r : Vals vs us) (h : sp (vs ++ dvs) H Q E) : wpAny (model X.prog X.w) X.A (call (.ref f) us) (EP X pins σ Q) X.xe s := by
  have r2 : Vals (vs ++ dvs) (us ++ ds) := r.append hd
  have hl : (us ++ ds).length = ps.length := by rw [← r2.length]; exact F.len _ _ _ _ h
  refine wpAny_call (codeAny_mono (F.run X.A X.stack s H ⟨us, []⟩ (us ++ ds) (vs ++ dvs) Q E hr I.env0 (hb s us I.kIn hl) r2 h) fun r s' hq => ?_)
  cases r with
  | error e => exact hx pins σ H s e s' I hq
  | ok fl =>
    cases fl with
    | ret u => exact I.after hq
    | next => exact False.elim hq
    | brk => exact False.elim hq
    | cont => exact False.elim hq
theorem pe_call (F : FnOk X.prog X.w X.K X.mg X.base CX k f fd ps sp) (hr : Room k X.A) (hg : Gl X x) (hm : X.mg x = some (.ref f)) (hk : PySem.W.keepIn X.K (.ref f) = true) (hb : Binds X.K fd ps ds) (hd : Vals dvs ds) (hx : Passes CX X E)
    (ha : PA X (e :: es) t) (hdb : (x == ("__debug__" : Str)) = false := by decide) (he : starEach (e :: es) X.env = (false, eval e X.env) :: starEach es X.env := by rfl) (hpl : (backTo pos (starEach es X.env)).any (·.1) = false := by rfl) :
    PE X (.Call (.Name x p) (e :: es) [] pos) (tCall sp dvs E t) := by
  intro pins s σ H Q I h
  refine wpAny_Call_Name_kw (ld_glob I hg hm ?_ hdb)
  refine PySem.W.callWith_K (h₀ := X.base) I.ok.mod.kin hk (thn (ha pos pins s σ H _ I h) fun us s1 ⟨vs, H1, I1, r, q⟩ => ⟨I1.kIn, ?_⟩) he hpl
  exact run_fn F hr hb hd hx I1 r q
end
section
variable {X : Cx} {CX : CXT} {k : Nat} {f C : Addr} {fd : FuncData} {ps ks : List Str} {sp : Sp} {E : XK} {x m : Str} {p pos apos kpos : Pos} {e o : Expr} {es : List Expr} {kws : List Keyword} {te ta : TE} {t tk : TA} {nm : Option Str}
variable {g : List Value → List Value → List Value} {gV : List V → List V → List V}
end
structure FnScope (N P : List Str) (sc : Scope) : Prop where
  kind : sc.kind = .function
  co : sc.isCoroutine = false
  gen : sc.isGenerator = false
  nd : N.Nodup
  pre : N.take P.length = P
  par : ∀ x ∈ P, sc.names.lookup x = some .local ∨ sc.names.lookup x = some .cell
  nofree : ∀ y ∈ sc.names, y.2 ≠ .free
theorem bindL_out {kindOf : Str → Option NameKind} {x : Str} : ∀ {binds : List (Str × Value)} {m : Str → Option Value}, (∀ v, (x, v) ∉ binds) → bindL kindOf binds m x = m x
  | [], _, _ => rfl
  | (n, v) :: r, m, h => by
    unfold bindL
    rw [bindL_out fun w hw => h w (List.mem_cons_of_mem _ hw)]
    split
    · have : x ≠ n := by rintro rfl; exact h v List.mem_cons_self
      simp [this]
    · rfl
theorem bindC_out {kindOf : Str → Option NameKind} {x : Str} : ∀ {binds : List (Str × Value)} {m : Str → Option Value}, (∀ v, (x, v) ∉ binds) → bindC kindOf binds m x = m x
  | [], _, _ => rfl
  | (n, v) :: r, m, h => by
    unfold bindC
    rw [bindC_out fun w hw => h w (List.mem_cons_of_mem _ hw)]
    split
    · rfl
    · have : x ≠ n := by rintro rfl; exact h v List.mem_cons_self
      simp [this]
theorem bindL_get {kindOf : Str → Option NameKind} {x : Str} {v : Value} : ∀ {P : List Str} {vs : List Value} {i : Nat} {m : Str → Option Value}, P.Nodup → P[i]? = some x → vs[i]? = some v → kindOf x = some .local →
    bindL kindOf (P.zip vs) m x = some v
  | [], _, _, _, _, h, _, _ => by simp at h
  | _ :: _, [], _, _, _, _, h, _ => by simp at h
  | p :: P, w :: vs, 0, m, nd, h1, h2, hk => by
    simp at h1 h2; subst h1; subst h2
    show bindL kindOf ((p, w) :: P.zip vs) m p = _
    unfold bindL
    rw [bindL_out fun v hv => (List.nodup_cons.mp nd).1 (List.of_mem_zip hv).1, if_pos hk]
    simp
  | p :: P, w :: vs, i + 1, m, nd, h1, h2, hk => by
    show bindL kindOf ((p, w) :: P.zip vs) m x = _
    unfold bindL
    exact bindL_get (i := i) (List.nodup_cons.mp nd).2 (by simpa using h1) (by simpa using h2) hk
theorem bindC_get {kindOf : Str → Option NameKind} {x : Str} {v : Value} : ∀ {P : List Str} {vs : List Value} {i : Nat} {m : Str → Option Value}, P.Nodup → P[i]? = some x → vs[i]? = some v → kindOf x ≠ some .local →
    bindC kindOf (P.zip vs) m x = some v
  | [], _, _, _, _, h, _, _ => by simp at h
  | _ :: _, [], _, _, _, _, h, _ => by simp at h
  | p :: P, w :: vs, 0, m, nd, h1, h2, hk => by
    simp at h1 h2; subst h1; subst h2
    show bindC kindOf ((p, w) :: P.zip vs) m p = _
    unfold bindC
    rw [bindC_out fun v hv => (List.nodup_cons.mp nd).1 (List.of_mem_zip hv).1, if_neg hk]
    simp
  | p :: P, w :: vs, i + 1, m, nd, h1, h2, hk => by
    show bindC kindOf ((p, w) :: P.zip vs) m x = _
    unfold bindC
    exact bindC_get (i := i) (List.nodup_cons.mp nd).2 (by simpa using h1) (by simpa using h2) hk
def start (N : List Str) (vs : List V) : St := vs.map some ++ List.replicate (N.length - vs.length) none
def cxOf (CX : CXT) (P : Program) (w : World) (K : PySem.W.Frag) (mg : Str → Option Value) (base : Heap) (N : List Str) (qual : Str) (scope : Scope) (f : Addr) (cd : Value) (A : Around) (outer : List Env) (s : Shared) (H : Hp) (E : XK) : Cx where
  prog := P
  w := w
  K := K
  mg := mg
  base := base
  A := A.deeper (envOfC qual scope s.heap.objs.size f cd)
  N := N
  s₀ := s
  H₀ := H
  env := envOfC qual scope s.heap.objs.size f cd
  outer := outer
  stack := envOfC qual scope s.heap.objs.size f cd :: outer
  ex := []
  calm := true
  fn := fun _ => true
  pn := []
  xe := fun e s' => wpAny (model P w) (A.deeper (envOfC qual scope s.heap.objs.size f cd)) (leaving (envOfC qual scope s.heap.objs.size f cd) e) (fun _ s'' => CX outer H s E e s'') (fun e' s'' => CX outer H s E e' s'') s'
theorem cell_has {sc : Scope} {n : Nat} {x : Str} (h : sc.names.lookup x = some .cell) : ∃ c, (cellsFrom n sc.names []).lookup x = some c := by
  have q := PySem.W.cellsFrom_some sc.names n [] (.inl h)
  exact Option.isSome_iff_exists.mp q
theorem inv_start {CX : CXT} {P : Program} {w : World} {K : PySem.W.Frag} {mg : Str → Option Value} {base : Heap} {N ps : List Str} {qual : Str} {scope : Scope} {f : Addr} {cd : Value} {A : Around} {outer : List Env} {s s1 : Shared} {H : Hp} {E : XK} {us : List Value} {vs : List V}
    (S : FnScope N ps scope) (hd : A.handled = none) (e0 : Env0 P w K mg base A outer s H) (hl : vs.length = ps.length) (r : Vals vs us)
    (x : InCallC s s.heap.objs.size (bindL (envOfC qual scope s.heap.objs.size f cd).kindOf (ps.zip us) fun _ => none) (cellsFrom (s.heap.objs.size + 1) scope.names []) (bindC (envOfC qual scope s.heap.objs.size f cd).kindOf (ps.zip us) fun _ => none) s1) :
    Inv (cxOf CX P w K mg base N qual scope f cd A outer s H E) [] (start N vs) H s1 := by
  have hpl : ps.length ≤ N.length := by have := congrArg List.length S.pre; rw [List.length_take] at this; omega
  obtain ⟨h1, tk, rfl, hk⟩ := x.done
  have noA : ∀ b : Addr, b ∉ (cxOf CX P w K mg base N qual scope f cd A outer s H E).ex := fun b z => absurd (show b ∈ ([] : List Addr) from z) (by simp)
  refine ⟨⟨e0.mod, S.kind, rfl, rfl, Nat.le_refl _, fun y z c h1 h2 => ?_, fun y hy => ?_, fun y c _ h => ?_, fun _ => hd, Around.frames_deeper e0.frames, .inr ⟨rfl, rfl⟩, fun b z => absurd z (noA b), e0.bs, e0.bsz, fun b _ _ => noA b, fun b z => absurd z (noA b), e0.funs, e0.frf⟩,
    rfl, e0.bare, Un.kept hk, ⟨_, x.toInCall.ns, fun i y v h1 h2 h3 => ?_⟩, fun y c h => ⟨_, x.cell y c h⟩, e0.hok.fresh (Nat.le_refl _), fun y c h => ?_, fun p hp => absurd (show p ∈ ([] : List (Addr × Obj)) from hp) (by simp), e0.hok.kept hk, ?_⟩
  · exact name_of_addr x.apart (PySem.mem_of_lookup h1) (PySem.mem_of_lookup h2)
  · have hy : scope.names.lookup y = some .cell ∨ scope.names.lookup y = some .free := hy
    rcases hy with hy | hy
    · exact cell_has hy
    · exact absurd rfl (S.nofree _ (PySem.mem_of_lookup hy))
  · exact Nat.le_of_lt (x.above y c (PySem.mem_of_lookup h))
  · have hi : i < vs.length := by
      unfold start at h2
      by_cases hi : i < vs.length
      · exact hi
      · rw [List.getElem?_append_right (by simpa using hi)] at h2
        rw [List.getElem?_replicate] at h2
        split at h2 <;> cases h2
    have ha : vs[i]? = some v := by
      unfold start at h2
      rw [List.getElem?_append_left (by simpa using hi), List.getElem?_map] at h2
      cases e : vs[i]? with
      | none => rw [e] at h2; cases h2
      | some a => rw [e] at h2; cases h2; rfl
    obtain ⟨u, hu, rv⟩ := r.get ha
    have hp : ps[i]? = some y := by
      rw [← S.pre, List.getElem?_take_of_lt (by omega)]; exact h1
    have ndP : ps.Nodup := by rw [← S.pre]; exact S.nd.sublist (List.take_sublist _ _)
    refine ⟨u, rv, ?_⟩
    rcases S.par y (List.mem_of_getElem? hp) with k | k
    · exact .inl ⟨k, bindL_get ndP hp hu k⟩
    · obtain ⟨c, e⟩ := cell_has (n := s.heap.objs.size + 1) k
      refine .inr ⟨.inl k, c, e, ?_⟩
      have q := x.cell y c e
      rw [bindC_get ndP hp hu (by show scope.names.lookup y ≠ _; rw [k]; decide)] at q
      exact q
  · exact e0.hok.fresh (Nat.le_of_lt (x.above y c (PySem.mem_of_lookup h)))
  · unfold start
    show _ = N.length
    rw [List.length_append, List.length_map, List.length_replicate]
    omega
theorem fn_of {CX : CXT} {P : Program} {w : World} {K : PySem.W.Frag} {mg : Str → Option Value} {base : Heap} {k : Nat} {f : Addr} {name qual : Str} {params : Arguments} {body : List Stmt} {scope : Scope} {dV kV doc pm cdv ct oc : Value} {an od : Option Addr}
    {osl : Array (Option Value)} {N ps : List Str} {sp : Sp} (lk : K.lookup f = some ⟨oc, od, .func (PySem.W.fnOf name qual params body scope dV kV doc pm an cdv ct), osl⟩) (hcd : PySem.W.codeIn K cdv qual = true) (S : FnScope N ps scope)
    (len : ∀ vs H Q E, sp vs H Q E → vs.length = ps.length)
    (hbody : ∀ (A : Around) (outer : List Env) (s : Shared) (H : Hp) (vs : List V) (Q : VK) (E : XK), Room k (A.deeper (envOfC qual scope s.heap.objs.size f cdv)) → sp vs H Q E →
      ∃ t, PSs (cxOf CX P w K mg base N qual scope f cdv A outer s H E) body t ∧ t { nx := fun _ H' => Q .non H', rt := Q } (start N vs) H) :
    FnOk P w K mg base CX (k + 1) f (PySem.W.fnOf name qual params body scope dV kV doc pm an cdv ct) ps sp := by
  refine ⟨len, fun A outer s H args us vs Q E hr e0 hb r hsp => ?_⟩
  have hl := len _ _ _ _ hsp
  have KX : K.In s.heap := e0.mod.kin.keeps fun b o e => (e0.bs b o e).1
  have lim : s.heap.NoLimit := e0.mod.nolimit.keeps fun b o e => (e0.bs b o e).1
  have hkind : ∀ y ∈ ps.zip us, scope.names.lookup y.1 = some .local ∨ (scope.names.lookup y.1 = some .cell ∧ ((cellsFrom (s.heap.objs.size + 1) scope.names []).lookup y.1).isSome = true) := fun ⟨n, v⟩ hy => by
    rcases S.par n (List.of_mem_zip hy).1 with q | q
    · exact .inl q
    · exact .inr ⟨q, PySem.W.cellsFrom_some _ _ _ (.inl q)⟩
  refine codeAny_call_function hr.depth (KX _ _ lk) rfl S.co S.gen rfl (PySem.W.codeRec_of KX hcd) (hb _ _ _ _ ?_)
  refine wpAny_newFunctionEnv_cells S.kind hkind fun env he s1 x => ?_
  subst he
  refine ⟨lim.keeps x.toInCall.keep, codeAny_func ?_⟩
  obtain ⟨t, ht, hq⟩ := hbody A outer s H vs Q E (hr.deeper _) hsp
  have I : Inv (cxOf CX P w K mg base N qual scope f cdv A outer s H E) [] (start N vs) H s1 := inv_start S hr.hd e0 hl r x
  refine wpAny_mono (ht [] s1 (start N vs) H _ I hq) (fun fl s' hs => ?_) fun e s' hs => hs
  have fin : ∀ {σ' : St} {H' : Hp} {v : V} {u : Value}, Inv (cxOf CX P w K mg base N qual scope f cdv A outer s H E) [] σ' H' s' → RelV v u → Q v H' → CE outer P w H s Q u s' :=
    fun {σ' H' v u} J rv q => ⟨v, H', J.os, J.bare, J.base, J.hok, rv, q⟩
  cases fl with
  | ret u =>
    obtain ⟨v, σ', H', J, rv, q⟩ := hs
    exact fin J rv q
  | next =>
    obtain ⟨σ', H', J, q⟩ := hs
    exact fin (v := V.non) (u := Value.none) J rfl q
  | brk =>
    obtain ⟨_, _, _, q⟩ := hs
    exact False.elim q
  | cont =>
    obtain ⟨_, _, _, q⟩ := hs
    exact False.elim q
end L2
namespace L2
open PySem PySem.Spec PyProof.Rows
section
variable {X : Cx} {x : Str} {p pos : Pos} {e : Expr} {es : List Expr} {t : TA} {id T : String} {r : List V → Hp → VK → Prop}
def tCB (r : List V → Hp → VK → Prop) (t : TA) : TE := fun σ H Q => t σ H fun vs H1 => r vs H1 Q
theorem pe_callB (hc : CallR X (.builtin id) r) (hg : Gl X x) (hm : X.mg x = none) (hv : bootBuiltins x = some (.builtin id)) (ha : PA X (e :: es) t) (hn : x ≠ "__name__" := by decide) (hdb : (x == ("__debug__" : Str)) = false := by decide)
    (he : starEach (e :: es) X.env = (false, eval e X.env) :: starEach es X.env := by rfl) (hpl : (backTo pos (starEach es X.env)).any (·.1) = false := by rfl) : PE X (.Call (.Name x p) (e :: es) [] pos) (tCB r t) := by
  intro pins s σ H Q I h
  refine wpAny_Call_Name_kw (ld_blt I hg hm hv ?_ hn hdb)
  exact PyProof.Rows.callWith_builtin1 (thn (ha pos pins s σ H _ I h) fun us s1 ⟨vs, H1, I1, r1, q1⟩ => hc pins s1 σ H1 vs us Q I1 r1 q1) he hpl
theorem pe_callTy (hc : CallR X (.type T) r) (hg : Gl X x) (hm : X.mg x = none) (hv : bootBuiltins x = some (.type T)) (ha : PA X (e :: es) t) (hn : x ≠ "__name__" := by decide) (hdb : (x == ("__debug__" : Str)) = false := by decide)
    (he : starEach (e :: es) X.env = (false, eval e X.env) :: starEach es X.env := by rfl) (hpl : (backTo pos (starEach es X.env)).any (·.1) = false := by rfl) : PE X (.Call (.Name x p) (e :: es) [] pos) (tCB r t) := by
  intro pins s σ H Q I h
  refine wpAny_Call_Name_kw (ld_blt I hg hm hv ?_ hn hdb)
  exact PyProof.Rows.callWith_type1 (thn (ha pos pins s σ H _ I h) fun us s1 ⟨vs, H1, I1, r1, q1⟩ => hc pins s1 σ H1 vs us Q I1 r1 q1) he hpl
end
end L2
namespace HT
open PySem PyProof.Rows
section
open PySem.SeqAt
open PySem.AutoSeq1 (wpAny_loadPart')
open PySem.MeetsSeq PySem.MeetsSeq2 PySem.MeetsSeq3
end
section
variable {prog : Program} {w : World} {A : Around} {E : Value → Shared → Prop} {s : Shared}
def sIx (n d : Nat) : Option Int → Nat
  | none => d
  | some v => if v < 0 then (v + (n : Int)).toNat else min v.toNat n
end
end HT
namespace L2
open PySem PySem.Spec PyProof.Rows
abbrev TO := St → Hp → (Option Int → Hp → Prop) → Prop
def PO (X : Cx) (e : Option Expr) (t : TO) : Prop :=
  ∀ (pins : List (Addr × Obj)) (s : Shared) (σ : St) (H : Hp) (Q : Option Int → Hp → Prop), Inv X pins σ H s → t σ H Q →
    wpAny (model X.prog X.w) X.A (evalPart e X.env) (fun u s' => ∃ o H', Inv X pins σ H' s' ∧ IsPart u o ∧ Q o H') X.xe s
def tNoPart : TO := fun _ H Q => Q none H
def tPart (t : TE) : TO := fun σ H Q => t σ H fun x H1 => ∃ i, x = .int i ∧ Q (some i) H1
section
variable {X : Cx} {e : Expr} {te : TE} {lo hi : Option Expr} {tl th : TO} {pos p2 : Pos}
theorem po_none : PO X none tNoPart := by
  intro pins s σ H Q I h
  rw [evalPart_none]
  exact wpAny_pure ⟨none, H, I, .none, h⟩
theorem po_some (h : PE X e te) : PO X (some e) (tPart te) := by
  intro pins s σ H Q I hw
  rw [evalPart_some]
  refine thn (h pins s σ H _ I hw) fun u s1 ⟨x, H1, I1, r1, q1⟩ => ?_
  obtain ⟨i, rfl, q⟩ := q1
  obtain ⟨t, rfl⟩ := r1
  exact ⟨some i, H1, I1, .int i t, q⟩
def SlR (X : Cx) (r : V → Option Int → Option Int → Hp → VK → Prop) : Prop :=
  ∀ (pins : List (Addr × Obj)) (s : Shared) (σ : St) (H : Hp) (x : V) (v vl vu : Value) (lo hi : Option Int) (sl : Addr) (Q : VK), Inv X pins σ H s → RelV x v → s.heap.IsSliceOf sl vl vu .none → IsPart vl lo → IsPart vu hi → r x lo hi H Q →
    ∃ T id, typeLookup (.type T) "__getitem__" = pure (some (.builtin id)) ∧ s.TypeIs v T ∧ wpAny (model X.prog X.w) X.A (getItem v (.ref sl)) (EP X pins σ Q) X.xe s
def tSl (r : V → Option Int → Option Int → Hp → VK → Prop) (te : TE) (tl th : TO) : TE := fun σ H Q => te σ H fun x H1 => tl σ H1 fun l H2 => th σ H2 fun u H3 => r x l u H3 Q
theorem pe_slice {r : V → Option Int → Option Int → Hp → VK → Prop} (hr : SlR X r) (he : PE X e te) (hl : PO X lo tl) (hu : PO X hi th) : PE X (.Subscript e (.Slice lo hi none p2) pos) (tSl r te tl th) := by
  intro pins s σ H Q I h
  refine Subscript_ (thn (he pins s σ H _ I h) fun v s1 ⟨x, H1, I1, r1, q1⟩ => ?_)
  refine wpAny_Slice (thn (hl pins s1 σ H1 _ I1 q1) fun vl s2 ⟨l, H2, I2, pl, q2⟩ => thn (hu pins s2 σ H2 _ I2 q2) fun vu s3 ⟨u, H3, I3, pu, q3⟩ => ?_)
  rw [evalPart_none]
  refine wpAny_pure ?_
  have I4 : Inv X pins σ H3 { s3 with heap := s3.heap.push { cls := .type "slice", data := .fields #[vl, vu, .none] } } := I3.kept (t' := s3.toks) fun b ob q => Heap.get?_push_of_some _ q
  obtain ⟨T, id, hT, ht, hg⟩ := hr pins { s3 with heap := s3.heap.push { cls := .type "slice", data := .fields #[vl, vu, .none] } } σ H3 x v vl vu l u s3.heap.objs.size Q I4 r1 (Heap.IsSliceOf.new ..) pl pu q3
  show wpAny (model X.prog X.w) X.A (subscriptTail e (.Slice lo hi none p2) v (.ref s3.heap.objs.size)) (EP X pins σ Q) X.xe { s3 with heap := s3.heap.push { cls := .type "slice", data := .fields #[vl, vu, .none] } }
  exact tail_any (ops := [.ref s3.heap.objs.size, v]) ht hT hg (by with_unfolding_all rfl)
def cutV (xs : List V) (lo hi : Option Int) : List V := (xs.drop (HT.sIx xs.length 0 lo)).take (HT.sIx xs.length xs.length hi - HT.sIx xs.length 0 lo)
theorem cutV_length (xs : List V) (lo hi : Option Int) : (cutV xs lo hi).length ≤ xs.length := by
  unfold cutV
  rw [List.length_take, List.length_drop]
  omega
end
end L2
namespace L2
open PySem PySem.Spec PyProof.Rows
def ixN (n : Nat) (i : Int) : Option Nat := if 0 ≤ i then (if i < n then some i.toNat else none) else if -(n : Int) ≤ i then some (i + n).toNat else none
def atI {α : Type} (xs : List α) (i : Int) : Option α := (ixN xs.length i).bind fun j => xs[j]?
theorem ixN_seq {n : Nat} {i : Int} {j : Nat} (h : ixN n i = some j) : seqIndex? i n = some j ∧ j < n ∧ -(n : Int) ≤ i ∧ i < n := by
  unfold ixN at h
  by_cases h0 : 0 ≤ i
  · rw [if_pos h0] at h
    by_cases h1 : i < n
    · rw [if_pos h1] at h
      have e : i.toNat = j := Option.some.inj h
      exact ⟨by rw [seqIndex_of h0 h1, e], by omega, by omega, h1⟩
    · rw [if_neg h1] at h; cases h
  · rw [if_neg h0] at h
    by_cases h1 : -(n : Int) ≤ i
    · rw [if_pos h1] at h
      have e : (i + n).toNat = j := Option.some.inj h
      exact ⟨by rw [seqIndex_neg (by omega) h1, e], by omega, h1, by omega⟩
    · rw [if_neg h1] at h; cases h
theorem atI_get {α : Type} {xs : List α} {i : Int} {v : α} (h : atI xs i = some v) : ∃ j, seqIndex? i xs.length = some j ∧ xs[j]? = some v ∧ j < xs.length ∧ -(xs.length : Int) ≤ i ∧ i < xs.length := by
  unfold atI at h
  cases e : ixN xs.length i with
  | none => rw [e] at h; cases h
  | some j =>
    rw [e] at h
    obtain ⟨h1, h2, h3, h4⟩ := ixN_seq e
    exact ⟨j, h1, h, h2, h3, h4⟩
theorem atI_nat {α : Type} {xs : List α} {j : Nat} {v : α} (h : xs[j]? = some v) : atI xs (j : Int) = some v := by
  have hj : j < xs.length := (List.getElem?_eq_some_iff.mp h).1
  have e : ixN xs.length (j : Int) = some j := by
    unfold ixN
    rw [if_pos (by omega), if_pos (by omega)]; simp
  unfold atI; rw [e]; exact h
theorem atI_last {α : Type} (xs : List α) (v : α) : atI (xs ++ [v]) (-1) = some v := by
  have hl : (xs ++ [v]).length = xs.length + 1 := by simp
  have e : ixN (xs ++ [v]).length (-1) = some xs.length := by
    unfold ixN
    rw [hl, if_neg (by decide), if_pos (by omega)]
    congr 1
    omega
  unfold atI
  rw [e]
  show (xs ++ [v])[xs.length]? = some v
  simp
def PlainIx (b : Expr) : Prop := ∀ o i, subscripted b false o i = operate [o, i] (getItem o i)
def IxR (X : Cx) (r : R2) : Prop :=
  ∀ (value slice : Expr) (pins : List (Addr × Obj)) (s : Shared) (σ : St) (H : Hp) (x y : V) (v u : Value) (Q : VK), Inv X pins σ H s → RelV x v → RelV y u → r x y H Q →
    subscripted slice false v u = operate [v, u] (getItem v u) → wpAny (model X.prog X.w) X.A (subscriptTail value slice v u) (EP X pins σ Q) X.xe s
def MtR (X : Cx) (id : String) (r : V → List V → Hp → VK → Prop) : Prop :=
  ∀ (pins : List (Addr × Obj)) (s : Shared) (σ : St) (H : Hp) (x : V) (xs : List V) (v : Value) (us : List Value) (Q : VK), Inv X pins σ H s → RelV x v → Vals xs us → r x xs H Q →
    wpAny (model X.prog X.w) X.A (call (.builtin id) (v :: us)) (EP X pins σ Q) X.xe s
section
variable {X : Cx} {a b : Expr} {ta tb : TE} {pos : Pos}
theorem pe_ix {r : R2} (hr : IxR X r) (ha : PE X a ta) (hb : PE X b tb) (hs : PlainIx b) : PE X (.Subscript a b pos) (tOp r ta tb) := by
  intro pins s σ H Q I h
  exact Subscript_ (binT ha hb I h fun v u s2 x y H2 I2 rx ry q => hr a b pins s2 σ H2 x y v u Q I2 rx ry q (hs _ _))
def rIxL (K : PySem.W.Frag) : R2 := fun x y H Q => ∃ p xs i v, x = .ref p ∧ y = .int i ∧ SqL K H p xs ∧ atI xs i = some v ∧ Q v H
def rIxT (K : PySem.W.Frag) : R2 := fun x y H Q => ∃ p xs i v, x = .ref p ∧ y = .int i ∧ SqT K H p xs ∧ atI xs i = some v ∧ Q v H
theorem ix_list : IxR X (rIxL X.K) := by
  intro value slice pins s σ H x y v u Q I rx ry h hs
  obtain ⟨p, xs, i, z, rfl, rfl, hq, he, q⟩ := h
  cases rx
  obtain ⟨t, rfl⟩ := ry
  obtain ⟨its, r, pl, hz⟩ := I.list hq
  obtain ⟨j, h1, h2, h3, h4, h5⟩ := atI_get he
  obtain ⟨w, ew, rw'⟩ := r.get h2
  have hl := r.length
  have hn := line63
  have fin : EP X pins σ Q w s := ⟨z, H, I, rw', q⟩
  by_cases h0 : 0 ≤ i
  · have hj : i.toNat = j := by
      rw [seqIndex_of h0 h5] at h1
      exact Option.some.inj h1
    exact item_listR pl.isList h0 (by omega) (by rw [hj]; simpa using ew) fin hs
  · have hj : (i + (its.toArray.size : Int)).toNat = j := by
      rw [seqIndex_neg (by omega) h4] at h1
      rw [List.size_toArray, ← hl]
      exact Option.some.inj h1
    exact subscriptTail_builtinR (x := w) pl.isList.typeIs slot_list_getitem.lookup
      (wpAny_getItem_list_neg (Q := fun r s' => r = w ∧ EP X pins σ Q r s') pl.isList (by omega) (by rw [List.size_toArray] <;> omega) (by omega) (by rw [hj]; simpa using ew) ⟨rfl, fin⟩) hs
theorem ix_tup : IxR X (rIxT X.K) := by
  intro value slice pins s σ H x y v u Q I rx ry h hs
  obtain ⟨p, xs, i, z, rfl, rfl, hq, he, q⟩ := h
  cases rx
  obtain ⟨t, rfl⟩ := ry
  obtain ⟨its, r, pl, hz⟩ := I.tuple hq
  obtain ⟨j, h1, h2, h3, h4, h5⟩ := atI_get he
  obtain ⟨w, ew, rw'⟩ := r.get h2
  have hl := r.length
  have hn := line63
  have fin : EP X pins σ Q w s := ⟨z, H, I, rw', q⟩
  exact subscriptTail_builtinR (x := w) pl.typeIs slot_tuple_getitem.lookup
    (getItem_tuple (j := j) (Q := fun r s' => r = w ∧ EP X pins σ Q r s') pl (by omega) (by omega) (by rw [List.size_toArray, ← hl]; exact h1) (by simpa using ew) ⟨rfl, fin⟩) hs
theorem mapSeq_set (its : List Value) (n j : Nat) (u : Value) : Obj.mapSeq (·.setIfInBounds j u) { cls := .type "list", data := .seq its.toArray n } = { cls := .type "list", data := .seq (its.set j u).toArray n } := by
  simp [Obj.mapSeq]
theorem Inv.lst {pins : List (Addr × Obj)} {σ : St} {H : Hp} {s : Shared} {p : Addr} {xs : List V} (I : Inv X pins σ H s) (h : H p = some (.lst xs)) :
    ∃ (its : List Value) (n : Nat), Vals xs its ∧ s.heap.get? p = some { cls := .type "list", data := .seq its.toArray n } ∧ xs.length ≤ sizeLine := by
  obtain ⟨z, its, n, r, e⟩ := I.hok p _ h
  exact ⟨its, n, r, e, z⟩
theorem Inv.lstUpd {pins : List (Addr × Obj)} {σ : St} {H : Hp} {s : Shared} {p : Addr} {xs ys : List V} {its its' : List Value} {n n' : Nat} {f : Obj → Obj} (I : Inv X pins σ H s) (h : H p = some (.lst xs))
    (ho : s.heap.get? p = some { cls := .type "list", data := .seq its.toArray n }) (hf : f { cls := .type "list", data := .seq its.toArray n } = { cls := .type "list", data := .seq its'.toArray n' }) (r : Vals ys its') (hz : ys.length ≤ sizeLine) (t : Nat) :
    Inv X pins σ (upd H p (.lst ys)) { s with heap := s.heap.update p f, toks := t } := by
  have e : (s.heap.update p f).get? p = some { cls := .type "list", data := .seq its'.toArray n' } := by
    rw [Heap.get?_update_self f ho (by rw [hf] <;> rfl), hf]
  refine I.write (x := p) (e := p) (by rw [h]; trivial) (.inl rfl) (fun b u hb q => (Heap.get?_update_other _ _ (Ne.symm hb)).trans q) ⟨_, e⟩ ?_
  exact ⟨hz, its', n', r, e⟩
def rSetL : V → V → V → Hp → (Hp → Prop) → Prop := fun o i v H Q => ∃ p xs k j, o = .ref p ∧ i = .int k ∧ H p = some (.lst xs) ∧ ixN xs.length k = some j ∧ Q (upd H p (.lst (xs.set j v)))
theorem set_list : PSet X rSetL := by
  intro pins s σ H o i v ov iv u Q I ro ri rv h
  obtain ⟨p, xs, k, j, rfl, rfl, hp, hj, q⟩ := h
  cases ro
  obtain ⟨t, rfl⟩ := ri
  obtain ⟨its, n, r, ho, hz⟩ := I.lst hp
  obtain ⟨h1, h2, h3, h4⟩ := ixN_seq hj
  have hl := r.length
  have hn := line63
  have I' : Inv X pins σ (upd H p (.lst (xs.set j v))) { s with heap := s.heap.update p (Obj.mapSeq (·.setIfInBounds j u)) } :=
    I.lstUpd hp ho (mapSeq_set its n j u) (r.set rv j) (by rw [List.length_set]; exact hz) s.toks
  by_cases h0 : 0 ≤ k
  · have hk : k.toNat = j := by
      rw [seqIndex_of h0 h4] at h1
      exact Option.some.inj h1
    exact PySem.W.ki_setAt ho h0 (by omega) (by rw [List.size_toArray, ← hl]; exact h4) (by rw [hk]; exact ⟨_, I', q⟩)
  · have hk : (k + (its.toArray.size : Int)).toNat = j := by
      rw [seqIndex_neg (by omega) h3] at h1
      rw [List.size_toArray, ← hl]
      exact Option.some.inj h1
    exact PySem.W.ki_setBack ho (by omega) (by rw [List.size_toArray, ← hl]; exact h3) (by omega) (by rw [hk]; exact ⟨_, I', q⟩)
theorem slice_bounds (lo hi : Option Int) (n : Nat) : (sliceBounds lo hi none n).1 = ((HT.sIx n 0 lo : Nat) : Int) ∧ (sliceBounds lo hi none n).2.1 = ((HT.sIx n n hi : Nat) : Int) ∧ (sliceBounds lo hi none n).2.2 = 1 := by
  refine ⟨?_, ?_, rfl⟩
  · cases lo with
    | none => simp [sliceBounds, HT.sIx]
    | some i =>
      simp only [sliceBounds, HT.sIx, Option.getD_none, show (1 : Int) > 0 by decide, if_true]
      by_cases h : i < 0
      · simp only [h, if_true] <;> omega
      · simp only [h, if_false] <;> omega
  · cases hi with
    | none => simp [sliceBounds, HT.sIx]
    | some i =>
      simp only [sliceBounds, HT.sIx, Option.getD_none, show (1 : Int) > 0 by decide, if_true]
      by_cases h : i < 0
      · simp only [h, if_true] <;> omega
      · simp only [h, if_false] <;> omega
theorem slicePick_cut (its : List Value) (lo hi : Option Int) : slicePick its.toArray lo hi none = ((its.drop (HT.sIx its.length 0 lo)).take (HT.sIx its.length its.length hi - HT.sIx its.length 0 lo)).toArray := by
  obtain ⟨h1, h2, h3⟩ := slice_bounds lo hi its.toArray.size
  unfold slicePick
  rw [h1, h2, h3]
  simp only [sliceRange_one, pick_run, List.size_toArray] <;> rfl
def rSlL (K : PySem.W.Frag) : V → Option Int → Option Int → Hp → VK → Prop := fun x lo hi H Q => ∃ a xs, x = .ref a ∧ SqL K H a xs ∧ ∀ p, H p = none → Q (.ref p) (upd H p (.lst (cutV xs lo hi)))
theorem sl_list : SlR X (rSlL X.K) := by
  intro pins s σ H x v vl vu lo hi sl Q I rx hs pl pu h
  obtain ⟨a, xs, rfl, hx, q⟩ := h
  cases rx
  obtain ⟨its, r, ht, hz⟩ := I.list hx
  have hlen := r.length
  refine ⟨"list", _, slot_list_getitem.lookup, ht.isList.typeIs, ?_⟩
  refine wpAny_getItem_list_slice ht.isList hs pl pu .none (by simp) ?_ (by rw [List.size_toArray] <;> omega)
  rw [slicePick_cut, ← hlen]
  refine ⟨.ref s.heap.objs.size, _, I.laid (t' := s.toks) (o := .lst (cutV xs lo hi)) (fun b ob q => Heap.get?_push_of_some _ q) (Nat.le_refl _) ?_, rfl, q _ (I.hok.fresh (Nat.le_refl _))⟩
  exact ⟨Nat.le_trans (cutV_length xs lo hi) hz, _, 0, (r.drop (HT.sIx xs.length 0 lo)).take (HT.sIx xs.length xs.length hi - HT.sIx xs.length 0 lo), Heap.get?_push_size _ rfl⟩
def flatV : V → Bool
  | .non => true
  | .bl _ => true
  | .int _ => true
  | .str _ => true
  | _ => false
def eqV : V → V → Bool
  | .non, .non => true
  | .bl a, .bl b => a == b
  | .bl a, .int b => (if a then 1 else 0) == b
  | .int a, .bl b => a == (if b then 1 else 0)
  | .int a, .int b => a == b
  | .str a, .str b => a == b
  | _, _ => false
theorem eqAt_V {A : Around} {s : Shared} {y x : V} {u v : Value} (ry : RelV y u) (rx : RelV x v) (fy : flatV y = true) (fx : flatV x = true) : SeqAt.EqAt A s u v (eqV y x) := by
  cases y with
  | non =>
    cases ry
    cases x with
    | non => cases rx; exact SeqAt.EqAt.same _
    | bl b => cases rx; exact SeqAt.EqAt.none_bool b
    | int b => obtain ⟨t, rfl⟩ := rx; exact SeqAt.EqAt.none_int b t
    | str b => obtain ⟨t, rfl⟩ := rx; exact SeqAt.EqAt.none_str b t
    | _ => exact absurd (show false = true from fx) Bool.false_ne_true
  | bl a =>
    cases ry
    cases x with
    | non => cases rx; exact SeqAt.EqAt.bool_none a
    | bl b => cases rx; exact SeqAt.EqAt.bool_bool a b
    | int b => obtain ⟨t, rfl⟩ := rx; exact SeqAt.EqAt.bool_int a b t
    | str b => obtain ⟨t, rfl⟩ := rx; exact SeqAt.EqAt.bool_str a b t
    | _ => exact absurd (show false = true from fx) Bool.false_ne_true
  | int a =>
    obtain ⟨t', rfl⟩ := ry
    cases x with
    | non => cases rx; exact SeqAt.EqAt.int_none a t'
    | bl b => cases rx; exact SeqAt.EqAt.int_bool a t' b
    | int b => obtain ⟨t, rfl⟩ := rx; exact SeqAt.EqAt.int_int a t' b t
    | str b => obtain ⟨t, rfl⟩ := rx; exact SeqAt.EqAt.int_str a t' b t
    | _ => exact absurd (show false = true from fx) Bool.false_ne_true
  | str a =>
    obtain ⟨t', rfl⟩ := ry
    cases x with
    | non => cases rx; exact SeqAt.EqAt.str_none a t'
    | bl b => cases rx; exact SeqAt.EqAt.str_bool a t' b
    | int b => obtain ⟨t, rfl⟩ := rx; exact SeqAt.EqAt.str_int a t' b t
    | str b => obtain ⟨t, rfl⟩ := rx; exact SeqAt.EqAt.str_str a t' b t
    | _ => exact absurd (show false = true from fx) Bool.false_ne_true
  | _ => exact absurd (show false = true from fy) Bool.false_ne_true
def eqU (x : V) (u : Value) : Bool := match u with
  | .none => eqV .non x
  | .bool b => eqV (.bl b) x
  | .int i _ => eqV (.int i) x
  | .str z _ => eqV (.str z) x
  | _ => false
theorem eqU_of {x y : V} {u : Value} (r : RelV y u) (f : flatV y = true) : eqU x u = eqV y x := by
  cases y with
  | non => cases r; rfl
  | bl b => cases r; rfl
  | int i => obtain ⟨t, rfl⟩ := r; rfl
  | str z => obtain ⟨t, rfl⟩ := r; rfl
  | _ => exact absurd (show false = true from f) Bool.false_ne_true
theorem any_eqU {x : V} : ∀ {xs : List V} {us : List Value}, Vals xs us → xs.all flatV = true → us.any (eqU x) = xs.any fun y => eqV y x
  | _, _, .nil, _ => rfl
  | y :: xs, u :: us, .cons r t, f => by
    rw [List.all_cons, Bool.and_eq_true] at f
    rw [List.any_cons, List.any_cons, eqU_of r f.1, any_eqU t f.2]
theorem mem_eqAt {A : Around} {s : Shared} {x : V} {v : Value} (rx : RelV x v) (fx : flatV x = true) : ∀ {xs : List V} {us : List Value}, Vals xs us → xs.all flatV = true → ∀ u ∈ us, SeqAt.EqAt A s u v (eqU x u)
  | _, _, .nil, _ => fun u hu => by cases hu
  | y :: xs, u :: us, .cons r t, f => fun u' hu => by
    rw [List.all_cons, Bool.and_eq_true] at f
    rcases List.mem_cons.mp hu with rfl | hu
    · rw [eqU_of r f.1]; exact eqAt_V r rx f.1 fx
    · exact mem_eqAt rx fx t f.2 u' hu
def inV (x : V) (xs : List V) : Bool := xs.any fun y => eqV y x
def rIn (K : PySem.W.Frag) (neg : Bool) : R2 := fun x y H Q => ∃ p xs, y = .ref p ∧ (SqL K H p xs ∨ SqT K H p xs) ∧ flatV x = true ∧ xs.all flatV = true ∧ Q (.bl (if neg then !inV x xs else inV x xs)) H
theorem op_in_seq : OpR X (compareOp .In) (rIn X.K false) := by
  intro pins s σ H x y v u Q I rx ry h
  obtain ⟨p, xs, rfl, hq, fx, fs, q⟩ := h
  cases ry
  rcases hq with hq | hq
  · obtain ⟨its, r, pl, hz⟩ := I.list hq
    refine SeqAt.in_listAt (eqU x) pl.isList (fun w hw => mem_eqAt rx fx r fs w (by simpa using hw)) ⟨.bl _, H, I, rfl, ?_⟩
    rw [show its.toArray.any (eqU x) = its.any (eqU x) by simp, any_eqU r fs]
    exact q
  · obtain ⟨its, r, pl, hz⟩ := I.tuple hq
    refine SeqAt.in_tupleAt (eqU x) pl (fun w hw => mem_eqAt rx fx r fs w (by simpa using hw)) ⟨.bl _, H, I, rfl, ?_⟩
    rw [show its.toArray.any (eqU x) = its.any (eqU x) by simp, any_eqU r fs]
    exact q
theorem op_notIn_seq : OpR X (compareOp .NotIn) (rIn X.K true) := by
  intro pins s σ H x y v u Q I rx ry h
  obtain ⟨p, xs, rfl, hq, fx, fs, q⟩ := h
  cases ry
  rcases hq with hq | hq
  · obtain ⟨its, r, pl, hz⟩ := I.list hq
    refine SeqAt.notIn_listAt (eqU x) pl.isList (fun w hw => mem_eqAt rx fx r fs w (by simpa using hw)) ⟨.bl _, H, I, rfl, ?_⟩
    rw [show its.toArray.any (eqU x) = its.any (eqU x) by simp, any_eqU r fs]
    exact q
  · obtain ⟨its, r, pl, hz⟩ := I.tuple hq
    refine SeqAt.notIn_tupleAt (eqU x) pl (fun w hw => mem_eqAt rx fx r fs w (by simpa using hw)) ⟨.bl _, H, I, rfl, ?_⟩
    rw [show its.toArray.any (eqU x) = its.any (eqU x) by simp, any_eqU r fs]
    exact q
theorem call_len_seq : CallR X (.builtin "len") (fun xs H Q => ∃ p ys, xs = [.ref p] ∧ (SqL X.K H p ys ∨ SqT X.K H p ys) ∧ Q (.int ys.length) H) := by
  intro pins s σ H xs us Q I r h
  obtain ⟨p, ys, rfl, hq, q⟩ := h
  obtain ⟨u, rfl, rx⟩ := vals1 r
  cases rx
  have hn := line63
  rcases hq with hq | hq
  · obtain ⟨its, r', pl, hz⟩ := I.list hq
    have hlen := r'.length
    exact Calls.call_len_list pl.isList (by simp only [List.size_toArray] <;> omega) ⟨.int ys.length, H, I.tok _, ⟨s.toks + 1, by rw [List.size_toArray, hlen]⟩, q⟩
  · obtain ⟨its, r', pl, hz⟩ := I.tuple hq
    have hlen := r'.length
    exact len_tuple pl (by simp only [List.size_toArray] <;> omega) ⟨.int ys.length, H, I.tok _, ⟨s.toks + 1, by rw [List.size_toArray, hlen]⟩, q⟩
theorem call_list_of : CallR X (.type "list") (fun xs H Q => ∃ p ys, xs = [.ref p] ∧ (SqL X.K H p ys ∨ SqT X.K H p ys) ∧ ∀ l, H l = none → Q (.ref l) (upd H l (.lst ys))) := by
  intro pins s σ H xs us Q I r h
  obtain ⟨p, ys, rfl, hq, q⟩ := h
  obtain ⟨u, rfl, rx⟩ := vals1 r
  cases rx
  have fin : ∀ (its : List Value), Vals ys its → ys.length ≤ sizeLine → ∀ (h' : Heap) (c' : Nat), (∀ b o', s.heap.get? b = some o' → h'.get? b = some o') →
      h'.get? s.heap.objs.size = some { cls := .type "list", dict := none, data := .seq its.toArray c', slots := #[] } → EP X pins σ Q (.ref s.heap.objs.size) { s with heap := h' } := fun its r' hz h' c' kp e =>
    ⟨.ref s.heap.objs.size, _, I.laid (t' := s.toks) kp (Nat.le_refl _) (show ObjOk X.prog X.w _ h' _ (.lst ys) from ⟨hz, its, c', r', e⟩), rfl, q _ (I.hok.fresh (Nat.le_refl _))⟩
  rcases hq with hq | hq
  · obtain ⟨its, r', pl, hz⟩ := I.list hq
    have hlen := r'.length
    obtain ⟨o, ho, hc, n, hd⟩ := pl.isList
    exact call_list_seq p (.inl rfl) ho hc hd (fun h' c' kp e => fin its r' hz h' c' kp e) (by simp only [List.size_toArray] <;> omega)
  · obtain ⟨its, r', pl, hz⟩ := I.tuple hq
    have hlen := r'.length
    obtain ⟨o, ho, hc, n, hd⟩ := pl
    exact call_list_seq p (.inr rfl) ho hc hd (fun h' c' kp e => fin its r' hz h' c' kp e) (by simp only [List.size_toArray] <;> omega)
theorem call_tuple_of : CallR X (.type "tuple") (fun xs H Q => ∃ p ys, xs = [.ref p] ∧ ((SqL X.K H p ys ∧ ∀ l, H l = none → Q (.ref l) (upd H l (.tup ys))) ∨ (SqT X.K H p ys ∧ Q (.ref p) H))) := by
  intro pins s σ H xs us Q I r h
  obtain ⟨p, ys, rfl, h⟩ := h
  obtain ⟨u, rfl, rx⟩ := vals1 r
  cases rx
  rcases h with ⟨hq, q⟩ | ⟨hq, q⟩
  · obtain ⟨its, r', pl, hz⟩ := I.list hq
    have hlen := r'.length
    refine call_tuple_list pl.isList (fun h' kp => ?_) (by simp only [List.size_toArray] <;> omega)
    have I1 : Inv X pins σ H { s with heap := h' } := I.kept (t' := s.toks) kp
    have I2 : Inv X pins σ (upd H h'.objs.size (.tup ys)) { s with heap := h'.push { cls := .type "tuple", data := .seq its.toArray } } :=
      I1.laid (t' := s.toks) (fun b o e => Heap.get?_push_of_some _ e) (Nat.le_refl _) (show ObjOk X.prog X.w _ _ _ (.tup ys) from ⟨hz, its, r', IsTup.new _ _⟩)
    exact ⟨.ref h'.objs.size, _, I2, rfl, q _ (I1.hok.fresh (Nat.le_refl _))⟩
  · obtain ⟨its, r', pl, hz⟩ := I.tuple hq
    exact call_tuple_same pl ⟨.ref p, H, I, rfl, q⟩
def tyV (K : PySem.W.Frag) (T : String) (x : V) (H : Hp) : Prop := match x with
  | .str _ => T = "str"
  | .int _ => T = "int"
  | .ref p => (T = "list" ∧ ∃ xs, SqL K H p xs) ∨ (T = "tuple" ∧ ∃ o, K.lookup p = some o ∧ o.cls = .type "tuple" ∧ o.dict = none) ∨
      (T = "dict" ∧ ((∃ kvs, H p = some (.dK kvs)) ∨ ∃ kvs, H p = some (.dT kvs))) ∨ (T = "set" ∧ ∃ S n, H p = some (.set S n))
  | _ => False
theorem tyV_is {pins : List (Addr × Obj)} {σ : St} {H : Hp} {s : Shared} {T : String} {x : V} {v : Value} (I : Inv X pins σ H s) (r : RelV x v) (ty : tyV X.K T x H) :
    s.TypeIs v T ∧ ∀ a, v = .ref a → ∃ ob, s.heap.get? a = some ob ∧ ob.dict = none := by
  cases x with
  | str z =>
    obtain ⟨t, rfl⟩ := r
    cases (show T = "str" from ty)
    exact ⟨typeIs_str s z t, fun _ e => nomatch e⟩
  | int i =>
    obtain ⟨t, rfl⟩ := r
    cases (show T = "int" from ty)
    exact ⟨typeIs_int s i t, fun _ e => nomatch e⟩
  | ref p =>
    cases r
    rcases ty with ⟨rfl, xs, hq⟩ | ⟨rfl, o, hk, hc, hd⟩ | ⟨rfl, hk⟩ | ⟨rfl, S, n, hk⟩
    · obtain ⟨its, _, pl, _⟩ := I.list hq
      refine ⟨pl.isList.typeIs, fun a e => ?_⟩
      cases e
      obtain ⟨o, n, e, c, hd, _⟩ := pl
      exact ⟨o, e, hd⟩
    · refine ⟨⟨o, I.kIn p o hk, hc⟩, fun a e => ?_⟩
      cases e
      exact ⟨o, I.kIn _ o hk, hd⟩
    · have z : ∃ o, s.heap.get? p = some o ∧ o.ExactDict := by
        rcases hk with ⟨kvs, hk⟩ | ⟨kvs, hk⟩
        · obtain ⟨_, _, _, _, o, _, _, e, ex, _⟩ := I.hok p _ hk
          exact ⟨o, e, ex⟩
        · obtain ⟨_, _, _, _, o, _, _, e, ex, _⟩ := I.hok p _ hk
          exact ⟨o, e, ex⟩
      obtain ⟨o, e, ex⟩ := z
      refine ⟨⟨o, e, ex.1⟩, fun a e2 => ?_⟩
      cases e2
      exact ⟨o, e, ex.2.1⟩
    · obtain ⟨o, _, _, _, e, ex, _⟩ := I.hok p _ hk
      refine ⟨⟨o, e, ex.1⟩, fun a e2 => ?_⟩
      cases e2
      exact ⟨o, e, ex.2.1⟩
  | _ => exact False.elim ty
def tBM0 (K : PySem.W.Frag) (T : String) (r : V → List V → Hp → VK → Prop) (to : TE) : TE := fun σ H Q => to σ H fun x H1 => tyV K T x H1 ∧ r x [] H1 Q
def tBM (K : PySem.W.Frag) (T : String) (r : V → List V → Hp → VK → Prop) (to : TE) (t : TA) : TE := fun σ H Q => to σ H fun x H1 => tyV K T x H1 ∧ t σ H1 fun xs H2 => r x xs H2 Q
variable {o e : Expr} {es : List Expr} {to : TE} {t : TA} {name : Str} {apos cpos : Pos} {T id : String} {r : V → List V → Hp → VK → Prop}
theorem pe_bm0 (pa : PlainAttrs T) (slot : Slot T name id) (hty : typeOf (.builtin id) = pure (.type "method_descriptor")) (hm : MtR X id r) (ho : PE X o to)
    (hbase : attributeBase o name X.env (eval o X.env) = eval o X.env := by rfl) (hline : (apos.endLine == cpos.line) = true := by rfl) : PE X (.Call (.Attribute o name apos) [] [] cpos) (tBM0 X.K T r to) := by
  intro pins s σ H Q I h
  refine wpAny_Call_method0_late hbase hline (thn (ho pins s σ H _ I h) fun v s1 ⟨x, H1, I1, r1, ty, q1⟩ => ?_)
  obtain ⟨h1, h2⟩ := tyV_is I1 r1 ty
  exact ⟨T, id, pa, slot, hty, h1, h2, Calls.callWith_builtin rfl (PySem.evalArgs_none (hm pins s1 σ H1 x [] v [] Q I1 r1 .nil q1))⟩
theorem pe_bm (pa : PlainAttrs T) (slot : Slot T name id) (hty : typeOf (.builtin id) = pure (.type "method_descriptor")) (hm : MtR X id r) (ho : PE X o to) (ha : PA X (e :: es) t)
    (hbase : attributeBase o name X.env (eval o X.env) = eval o X.env := by rfl)
    (hfew : ((backTo cpos (starEach (e :: es) X.env)).all (fun x => !x.1) && (backToKw cpos (keywordEach [] X.env)).all (fun x => x.1.isSome)
      && decide ((e :: es).length + ([] : List Keyword).length + (if ([] : List Keyword).isEmpty then 0 else 1) < 30)) = true := by rfl)
    (hline : (apos.endLine == cpos.line) = true := by rfl) (hs : starEach (e :: es) X.env = (false, eval e X.env) :: starEach es X.env := by rfl) (hplain : (backTo cpos (starEach es X.env)).any (·.1) = false := by rfl) :
    PE X (.Call (.Attribute o name apos) (e :: es) [] cpos) (tBM X.K T r to t) := by
  intro pins s σ H Q I h
  refine wpAny_Call_method_late hbase hfew hline rfl (thn (ho pins s σ H _ I h) fun v s1 ⟨x, H1, I1, r1, ty, q1⟩ => ?_)
  obtain ⟨h1, h2⟩ := tyV_is I1 r1 ty
  refine ⟨T, id, pa, slot, hty, h1, h2, ?_⟩
  have hA := ha cpos pins s1 σ H1 _ I1 q1
  rw [hs] at hA ⊢
  refine Calls.callWith_builtin (by show (false || (backTo cpos (starEach es X.env)).any (·.1)) = false; rw [hplain] <;> rfl) (Calls.evalArgs_plain ?_)
  exact thn hA fun us s2 ⟨vs, H2, I2, r2, q2⟩ => hm pins s2 σ H2 x vs v us Q I2 r1 r2 q2
/- xs.append(e), list.index on a module's tuple .. are MtR facts of 06m -/
end
end L2
namespace L2
open PySem PySem.Spec PyProof.Rows
def MtM (X : Cx) (id : String) (r : V → List V → Hp → VK → Prop) : Prop :=
  ∀ (pins : List (Addr × Obj)) (s : Shared) (σ : St) (H : Hp) (x : V) (xs : List V) (v : Value) (us : List Value) (Q : VK), Inv X pins σ H s → RelV x v → Vals xs us → r x xs H Q →
    wpAny (model X.prog X.w) X.A (call (.builtin id) (v :: us)) (EP X pins σ Q) X.xe s
theorem Vals.one : ∀ {x : V} {us : List Value}, Vals [x] us → ∃ u, us = [u] ∧ RelV x u
  | _, _, .cons r .nil => ⟨_, rfl, r⟩
theorem Vals.two : ∀ {x y : V} {us : List Value}, Vals [x, y] us → ∃ u v, us = [u, v] ∧ RelV x u ∧ RelV y v
  | _, _, _, .cons r (.cons q .nil) => ⟨_, _, rfl, r, q⟩
theorem Vals.zero : ∀ {us : List Value}, Vals [] us → us = []
  | _, .nil => rfl
theorem Vals.eraseIdx : ∀ {xs : List V} {us : List Value} (i : Nat), Vals xs us → Vals (xs.eraseIdx i) (us.eraseIdx i)
  | _, _, _, .nil => .nil
  | _, _, 0, .cons _ t => t
  | _, _, i + 1, .cons r t => .cons r (Vals.eraseIdx i t)
theorem Vals.reverse {xs : List V} {us : List Value} (h : Vals xs us) : Vals xs.reverse us.reverse := by
  induction h with
  | nil => exact .nil
  | cons r t ih => rw [List.reverse_cons, List.reverse_cons]; exact Vals.append ih (.cons r .nil)
theorem Vals.rep {xs : List V} {us : List Value} (h : Vals xs us) : ∀ k : Nat, Vals (List.replicate k xs).flatten (List.replicate k us).flatten
  | 0 => .nil
  | k + 1 => by
    rw [List.replicate_succ, List.replicate_succ, List.flatten_cons, List.flatten_cons]
    exact Vals.append h (Vals.rep h k)
theorem len_erase {α : Type} : ∀ (l : List α) (i : Nat), (l.eraseIdx i).length ≤ l.length
  | [], _ => Nat.le_refl _
  | _ :: _, 0 => Nat.le_succ _
  | _ :: r, i + 1 => Nat.succ_le_succ (len_erase r i)
theorem foldl_rep (its : List Value) : ∀ (k : Nat) (acc : List Value),
    List.foldl (fun x1 x2 => x1 ++ x2) acc.toArray (List.replicate k its.toArray) = (acc ++ (List.replicate k its).flatten).toArray
  | 0, acc => by simp
  | k + 1, acc => by
    have e : acc.toArray ++ its.toArray = (acc ++ its).toArray := by simp
    have e2 : (acc ++ its) ++ (List.replicate k its).flatten = acc ++ (List.replicate (k + 1) its).flatten := by
      rw [List.replicate_succ, List.flatten_cons, List.append_assoc]
    rw [← e2, ← foldl_rep its k (acc ++ its), ← e, List.replicate_succ, List.foldl_cons]
section
variable {X : Cx} {pins : List (Addr × Obj)} {σ : St} {H : Hp} {s : Shared} {l b : Addr} {xs ys zs : List V}
theorem Inv.lset {its its' : List Value} {n : Nat} {f : Array Value → Array Value} {t' : Nat} (I : Inv X pins σ H s) (hH : H l = some (.lst xs))
    (e : s.heap.get? l = some { cls := .type "list", data := .seq its.toArray n }) (hf : f its.toArray = its'.toArray) (hv : Vals ys its') (hz : ys.length ≤ sizeLine) :
    Inv X pins σ (upd H l (.lst ys)) { s with heap := s.heap.update l (Obj.mapSeq f), toks := t' } := by
  have q := PySem.IsL.update e f
  rw [hf] at q
  refine I.write (x := l) (e := l) (by rw [hH]; exact trivial) (.inl rfl) (fun b' u hb hu => (Heap.get?_update_other s.heap (Obj.mapSeq f) (Ne.symm hb)).trans hu) ⟨_, q⟩ ?_
  exact ⟨hz, its', _, hv, q⟩
theorem Inv.lnew {its : List Value} {t' : Nat} (I : Inv X pins σ H s) (hv : Vals ys its) (hz : ys.length ≤ sizeLine) :
    Inv X pins σ (upd H s.heap.objs.size (.lst ys)) { s with heap := s.heap.push { cls := .type "list", data := .seq its.toArray }, toks := t' } :=
  I.laid (fun _ _ q => Heap.get?_push_of_some _ q) (Nat.le_refl _) ⟨hz, its, 0, hv, Heap.get?_push_size _ rfl⟩
theorem Inv.fresh (I : Inv X pins σ H s) : H s.heap.objs.size = none := I.hok.fresh (Nat.le_refl _)
theorem Inv.lstM (I : Inv X pins σ H s) (hH : H l = some (.lst xs)) : xs.length ≤ sizeLine ∧ ∃ (its : List Value) (n : Nat), Vals xs its ∧ xs.length = its.length ∧ s.heap.get? l = some { cls := .type "list", data := .seq its.toArray n } := by
  obtain ⟨z, its, n, r, e⟩ := I.hok l _ hH
  exact ⟨z, its, n, r, r.length, e⟩
theorem notLongL {n : Nat} (h : n ≤ sizeLine) : Builtin.List.listTooLong n = false := by
  unfold Builtin.List.listTooLong
  exact decide_eq_false (by omega)
end
section
variable {X : Cx}
def rAppend : V → List V → Hp → VK → Prop := fun x vs H Q => ∃ l xs y, x = .ref l ∧ vs = [y] ∧ H l = some (.lst xs) ∧ xs.length < sizeLine ∧ Q .non (upd H l (.lst (xs ++ [y])))
theorem mt_append : MtM X "list.append" rAppend := by
  intro pins s σ H x vs v us Q I rx rv h
  obtain ⟨l, xs, y, rfl, rfl, hH, hz, q⟩ := h
  cases rx
  obtain ⟨u, rfl, ru⟩ := rv.one
  obtain ⟨z, its, n, r, hl, e⟩ := I.lstM hH
  refine call_meets F.slot_list_append ⟨_, e, rfl⟩ F.entry_list_append (F.args_list_append_2 _ _) (PySem.list_append l its.toArray n u (by rw [List.size_toArray]; omega)) ⟨e, ?_⟩
  refine ⟨.non, _, I.lset (its' := its ++ [u]) hH e (by simp) (r.append (.cons ru .nil)) ?_, rfl, q⟩
  rw [List.length_append, List.length_singleton]
  omega
def rExtend : V → List V → Hp → VK → Prop := fun x vs H Q => ∃ l b xs zs, x = .ref l ∧ vs = [.ref b] ∧ H l = some (.lst xs) ∧ H b = some (.lst zs) ∧ xs.length + zs.length ≤ sizeLine ∧ Q .non (upd H l (.lst (xs ++ zs)))
theorem mt_extend : MtM X "list.extend" rExtend := by
  intro pins s σ H x vs v us Q I rx rv h
  obtain ⟨l, b, xs, zs, rfl, rfl, hH, hB, hz, q⟩ := h
  cases rx
  obtain ⟨u, rfl, ru⟩ := rv.one
  cases ru
  obtain ⟨z, its, n, r, hl, e⟩ := I.lstM hH
  obtain ⟨z2, its2, n2, r2, hl2, e2⟩ := I.lstM hB
  have hsz : its.toArray.size + its2.toArray.size ≤ sizeLine := by rw [List.size_toArray, List.size_toArray]; omega
  have hlong : ¬ (!its.toArray.isEmpty && Builtin.List.listTooLong (its.toArray.size + its2.toArray.size)) = true := by
    rw [notLongL hsz, Bool.and_false]
    exact Bool.false_ne_true
  refine call_meets F.slot_list_extend ⟨_, e, rfl⟩ F.entry_list_extend (F.args_list_extend_2 _ _)
    (AutoSeq1.list_extend_list_list_0 l its.toArray n b its2.toArray n2 hlong (by rw [List.size_toArray]; omega) (by omega)) ⟨e, e2, ?_⟩
  refine ⟨.non, _, I.lset (its' := its ++ its2) hH e (by simp) (r.append r2) ?_, rfl, q⟩
  rw [List.length_append]
  omega
def rReverse : V → List V → Hp → VK → Prop := fun x vs H Q => ∃ l xs, x = .ref l ∧ vs = [] ∧ H l = some (.lst xs) ∧ Q .non (upd H l (.lst xs.reverse))
theorem mt_reverse : MtM X "list.reverse" rReverse := by
  intro pins s σ H x vs v us Q I rx rv h
  obtain ⟨l, xs, rfl, rfl, hH, q⟩ := h
  cases rx
  have hus := rv.zero
  subst hus
  obtain ⟨z, its, n, r, hl, e⟩ := I.lstM hH
  refine call_meets F.slot_list_reverse ⟨_, e, rfl⟩ F.entry_list_reverse (F.args_list_reverse_1 _) (AutoSeq1.list_reverse_list_0 l its.toArray n (by rw [List.size_toArray]; omega)) ⟨e, ?_⟩
  refine ⟨.non, _, I.lset (its' := its.reverse) hH e (by simp) r.reverse ?_, rfl, q⟩
  rw [List.length_reverse]
  omega
def rCat : R2 := fun x y H Q => ∃ l b xs zs, x = .ref l ∧ y = .ref b ∧ H l = some (.lst xs) ∧ H b = some (.lst zs) ∧ xs.length + zs.length ≤ sizeLine ∧ ∀ p, H p = none → Q (.ref p) (upd H p (.lst (xs ++ zs)))
theorem op_cat : OpR X (binaryOp .Add) rCat := by
  intro pins s σ H x y v u Q I rx ry h
  obtain ⟨l, b, xs, zs, rfl, rfl, hH, hB, hz, q⟩ := h
  cases rx
  cases ry
  obtain ⟨z, its, n, r, hl, e⟩ := I.lstM hH
  obtain ⟨z2, its2, n2, r2, hl2, e2⟩ := I.lstM hB
  refine PySem.P.add_list e e2 ?_ (by rw [List.size_toArray, List.size_toArray]; omega)
  have ea : its.toArray ++ its2.toArray = (its ++ its2).toArray := by simp
  rw [ea]
  exact ⟨.ref _, _, I.lnew (t' := s.toks) (r.append r2) (by rw [List.length_append]; omega), rfl, q _ I.fresh⟩
def rRep : R2 := fun x y H Q => ∃ l k xs, x = .ref l ∧ y = .int k ∧ H l = some (.lst xs) ∧ -(2 ^ 63) ≤ k ∧ k < 2 ^ 63 ∧ xs.length * k.toNat ≤ sizeLine ∧
  ∀ p, H p = none → Q (.ref p) (upd H p (.lst (List.replicate k.toNat xs).flatten))
theorem len_rep {α : Type} (xs : List α) (k : Nat) : (List.replicate k xs).flatten.length = k * xs.length := by
  induction k with
  | zero => simp
  | succ k ih => rw [List.replicate_succ, List.flatten_cons, List.length_append, ih, Nat.succ_mul, Nat.add_comm]
theorem op_rep : OpR X (binaryOp .Mult) rRep := by
  intro pins s σ H x y v u Q I rx ry h
  obtain ⟨l, k, xs, rfl, rfl, hH, h1, h2, hz, q⟩ := h
  cases rx
  obtain ⟨t, rfl⟩ := ry
  obtain ⟨z, its, n, r, hl, e⟩ := I.lstM hH
  have hlen : its.toArray.size * k.toNat ≤ sizeLine := by rw [List.size_toArray, ← hl]; exact hz
  have hcap : ¬ its.toArray.size * k.toNat > (2 ^ 63 - 1) / 8 := by
    have : (sizeLine : Nat) ≤ (2 ^ 63 - 1) / 8 := by decide
    omega
  have hfit : ¬ (!Builtin.List.listFitsIndex k) = true := by
    rw [fitsIndex_both h1 h2]
    exact Bool.false_ne_true
  have hlong : ¬ Builtin.List.listTooLong (its.toArray.size * k.toNat) = true := by
    rw [notLongL hlen]
    exact Bool.false_ne_true
  have hnew : List.foldl (fun x1 x2 => x1 ++ x2) #[] (List.replicate (if its.toArray.isEmpty = true then 0 else k.toNat) its.toArray) = (List.replicate k.toNat its).flatten.toArray := by
    have f0 : ∀ m : Nat, List.foldl (fun x1 x2 => x1 ++ x2) #[] (List.replicate m its.toArray) = (List.replicate m its).flatten.toArray := fun m => by
      have := foldl_rep its m []
      rw [List.nil_append] at this
      exact this
    rw [f0]
    cases its with
    | nil => simp
    | cons a r' => rw [if_neg (by simp)]
  refine wpAny_binaryOp_repeat_ref (T := "list") (U := "int") (by decide) ⟨_, e, rfl⟩ (fun s' => typeIs_int s' k t) noFill_list_mul F.fills_int_mul F.slot_int_rmul repeat_list F.slot_int_index.lookup
    (call_meets F.slot_int_rmul (typeIs_int s k t) F.entry_int_rmul (F.args_int_rmul_2 _ _) (int___rmul___int_list k t l its.toArray n)
      ⟨e, rfl, ⟨_, e, rfl⟩, call_meets F.slot_list_mul ⟨_, e, rfl⟩ F.entry_list_mul (F.args_list_mul_2 _ _) (AutoListH.list___mul___list_int_3 l its.toArray n k t hfit hcap hlong) ⟨e, ?_⟩⟩)
  rw [hnew]
  exact ⟨.ref _, _, I.lnew (t' := s.toks) (r.rep k.toNat) (by rw [len_rep, Nat.mul_comm]; exact hz), rfl, q _ I.fresh⟩
end
section
variable {prog : Program} {w : World} {A : Around} {E : Value → Shared → Prop} {s : Shared}
end
section
variable {X : Cx}
end
end L2
namespace Att
open PySem PySem.W PySem.Calls PyProof.Rows
theorem ints_of_wellAll {P : Params} {h : Heap} : ∀ (ns : List Int) (vs : List Value), WellAll P h vs (ns.map WData.int) → IntsAre vs ns := by
  intro ns
  induction ns with
  | nil =>
    intro vs w
    rw [List.map_nil] at w
    cases w
    exact .nil
  | cons n ns ih =>
    intro vs w
    rw [List.map_cons] at w
    cases w with
    | cons a b =>
      cases a
      exact .cons _ _ (ih _ b)
theorem script_of {l : OpenLaw} {n : Nat} (hn : l.most = some n) {P : Params} {h : Heap} {args : List WData} {vals : List Value}
    (hpre : l.row.toRowW.claim.pre args = true) (hwl : WellAll P h vals args) :
    ∃ a vs ns, vals = [Value.ref a] ∧ args = [WData.list (ns.map WData.int)] ∧ h.get? a = some { cls := .type "list", data := .seq vs.toArray } ∧ IntsAre vs ns ∧ ns.length ≤ n := by
  have hsh : WShape.hasAll [] args [.list .int] = true := (pre_splitW hpre).1
  have hc : l.pre.holds [] { args := args } = true := (pre_splitW hpre).2
  obtain ⟨d, r, rfl, h1, h2⟩ := hasAllW_cons hsh
  obtain rfl := hasAllW_nil h2
  obtain ⟨xs, rfl, h3⟩ := hasW_list h1
  obtain ⟨ns, rfl⟩ := items_int h3
  have hlen : ns.length ≤ n := by
    unfold OpenLaw.pre at hc
    have h4 : (WTm.not (.lt (.lit (.int (n : Int))) (.len (.arg 0)))).holds [] { args := [.list (ns.map .int)] } = true := by
      have h4 := (holds_andW hc).1
      rw [hn] at h4
      exact h4
    have h5 := condW_of h4 (w_not (w_lt w_lit (w_len_list (w_arg rfl))))
    rw [List.length_map] at h5
    refine Nat.le_of_not_lt fun q => ?_
    have q' : (n : Int) < ((ns.length : Nat) : Int) := by omega
    first
      | (rw [decide_eq_true q'] at h5; exact absurd h5 (by decide))
      | (simp at h5; omega)
  cases hwl with
  | cons w1 w2 =>
    cases w2
    cases w1 with
    | list ho hall => exact ⟨_, _, ns, rfl, rfl, ho, ints_of_wellAll ns _ hall, hlen⟩
theorem post_true (l : OpenLaw) (args : List WData) : l.row.toRowW.claim.post args (.bool true) args = true :=
  postW_of (r := l.row.toRowW) (X := (true == true))
    (show WShape.has [] (.bool true) .bool = true by first | rfl | decide | simp [WShape.has, WShape.arms, WShape.armsAll])
    (show (WTm.eq .res (.lit (.bool true))).value [] { args := args, res := some (.bool true), after := args } = some (.bool (true == true)) from w_eq_bool (w_res rfl) w_lit) rfl
theorem attach_call {l : OpenLaw} {n : Nat} {q : Program} {loose : List Str} {XP : (Str → Option Value) → Heap → Prop} {YP : World → Heap → Prop} {d : DefRec}
    (hn : l.most = some n) (hdf : d.params.defaults = [])
    (call : ∀ (w : World) (s₀ s₁ : Shared) (mg mb : Str → Option Value) (fa : Addr) (o : Obj) (pm cd doc : Value) (a : Addr) (vs : List Value) (ns : List Int),
      Ground q loose [] XP w s₀ mg mb s₁.heap → YP w s₁.heap →
      s₁.heap.get? fa = some o → o.data = .func (docDef d.name d.params d.body d.scope pm cd doc) → s₁.heap.CodeRec cd d.name → mg d.name = some (.ref fa) →
      s₁.heap.get? a = some { cls := .type "list", data := .seq vs.toArray } → IntsAre vs ns → ns.length ≤ n → s₁.gens = #[] →
      codeAny (model l.prog w) callerA (.call (.ref fa) ⟨[.ref a], []⟩) (fun r s' => r = .ok (.ret (.bool true)) ∧ OldK s₁.heap s'.heap ∧ s'.os = s₁.os ∧ AllBare s'.gens) s₁) :
    WalkO q loose XP YP l.row.toRowW d [] (fun f vs => PySem.call f vs) := by
  intro w s₀ s₁ mg mb G Y fa o pm cd doc dV kV ho hd hcd hD hmg hg args vals as hpre hlay hrd hwl hlo
  obtain rfl : dV = .none := Dflts.none hD hdf
  obtain rfl : kV = .none := Dflts.noKw hD
  obtain ⟨a, vs, ns, rfl, rfl, hobj, hints, hlen⟩ := script_of hn hpre hwl
  refine enter_call (codeAny_mono (call w s₀ s₁ mg mb fa o pm cd doc a vs ns G Y ho (fd_plain hd) hcd hmg hobj hints hlen hg) fun r s' hq => ?_)
  obtain ⟨rfl, h2, h3, h4⟩ := hq
  exact ⟨.inl ⟨.bool true, .bool true, [], rfl, fun _ => rfl, .bool true, post_true l _, fun _ => ⟨List.Pairwise.nil, fun _ hm => (nomatch hm)⟩⟩, h2, h3, h4⟩
section
variable {prog : Program} {w : World} {A : Around} {E : Value → Shared → Prop} {s : Shared} {K : Frag}
end
end Att
namespace L2
open PySem PySem.Spec PyProof.Rows
theorem vals_ints : ∀ {vs : List Value} {ns : List Int}, IntsAre vs ns → Vals (ns.map V.int) vs
  | _, _, .nil => .nil
  | _, _, .cons n t h => .cons ⟨t, rfl⟩ (vals_ints h)
def Only (H : Hp) : Prop := ∀ b, H b = none ∨ ∃ o xs, H b = some (.frz o (.lst xs))
theorem law_call {P : Program} {w : World} {K : PySem.W.Frag} {mg mb : Str → Option Value} {CX : CXT} {k : Nat} {fa a : Addr} {fd : FuncData} {x : Str} {sp : Sp} {s₁ : Shared} {vs : List Value} {ns : List Int}
    (KX : K.In s₁.heap) (hns : s₁.heap.Ns mainGlobals mg) (hb : s₁.heap.Ns builtinsNs mb) (hbb : ∀ x : Str, x ≠ "__name__" → mb x = bootBuiltins x) (hlim : s₁.heap.NoLimit) (hg : s₁.gens = #[])
    (ha : s₁.heap.get? a = some { cls := .type "list", data := .seq vs.toArray }) (hi : IntsAre vs ns) (hl : ns.length ≤ sizeLine) (hr : Room k callerA)
    (F : ∀ base : Heap, K.In base → base.Ns mainGlobals mg → FnOk P w K mg base CX k fa fd [x] sp) (hbind : ∀ (s : Shared) (u : Value), BindsTo s fd ⟨[u], []⟩ [(x, u)])
    (hsp : ∀ H : Hp, Only H → SqL K H a (ns.map V.int) → sp [.ref a] H (fun v _ => v = .bl true) fun _ _ _ => False)
    (hCX : ∀ H e s', CX [] H s₁ (fun _ _ _ => False) e s' → False) :
    codeAny (model P w) callerA (.call (.ref fa) ⟨[.ref a], []⟩) (fun r s' => r = .ok (.ret (.bool true)) ∧ OldK s₁.heap s'.heap ∧ s'.os = s₁.os ∧ AllBare s'.gens) s₁ := by
  have rv := vals_ints hi
  have lenV := hi.length
  -- from an abstract heap in which nothing but the script may be tracked
  have core : ∀ H : Hp, Only H → SqL K H a (ns.map V.int) → HOk P w H s₁.heap → (∀ b, H b ≠ none → b = a) → (H a ≠ none → K.lookup a = none) →
      codeAny (model P w) callerA (.call (.ref fa) ⟨[.ref a], []⟩) (fun r s' => r = .ok (.ret (.bool true)) ∧ OldK s₁.heap s'.heap ∧ s'.os = s₁.os ∧ AllBare s'.gens) s₁ := by
    intro H hO hS hok hA hK
    have base_of : ∀ {b : Addr} {o : Obj}, s₁.heap.get? b = some o → H b = none → (hidT s₁.heap H).get? b = some o := fun e n => hidT_get e n
    have noA : ∀ {b : Addr} {o : Obj} {es : Array DictEntry} {ep : Nat}, s₁.heap.get? b = some o → o.data = .dict es ep → H b = none := fun {b o es ep} e d => by
      cases q : H b with
      | none => rfl
      | some u =>
        have e' : b = a := hA b (by rw [q]; simp)
        subst e'
        rw [ha] at e; cases e
        have d' : Data.seq vs.toArray _ = Data.dict es ep := d
        cases d'
    have nsK : ∀ {b : Addr} {m : Str → Option Value}, s₁.heap.Ns b m → (hidT s₁.heap H).Ns b m := fun {b m} ⟨o, es, ep, e, d, r⟩ => ⟨o, es, ep, base_of e (noA e d), d, r⟩
    have hKb : K.In (hidT s₁.heap H) := fun b o e => base_of (KX b o e) (by
      cases q : H b with
      | none => rfl
      | some u =>
        have e' : b = a := hA b (by rw [q]; simp)
        subst e'
        rw [hK (by rw [q]; simp)] at e; cases e)
    have hM : Mod K mg (hidT s₁.heap H) := ⟨hKb, nsK hns, ⟨mb, nsK hb, hbb⟩, let ⟨mc, h1, h2⟩ := hlim; ⟨mc, nsK h1, h2⟩⟩
    have e0 : Env0 P w K mg (hidT s₁.heap H) callerA [] s₁ H := ⟨rfl, hM, fun b o e => of_hidT e, Nat.le_of_eq (hidT_size _ _), trivial, fun b hb => absurd (show b ∈ ([] : List Addr) from hb) (by simp), hok, .of_eq hg⟩
    refine codeAny_mono ((F _ hKb (nsK hns)).run callerA [] s₁ H ⟨[.ref a], []⟩ [.ref a] [.ref a] _ _ hr e0 (hbind s₁ (.ref a)) (.cons rfl .nil) (hsp H hO hS)) fun r s' h => ?_
    cases r with
    | error e => exact (hCX H e s' h).elim
    | ok fl =>
      cases fl with
      | next => exact False.elim h
      | brk => exact False.elim h
      | cont => exact False.elim h
      | ret u =>
        obtain ⟨v, H', os, bare, un, hok', r', q⟩ := h
        have q' : v = .bl true := q
        subst q'
        obtain rfl : u = Value.bool true := r'
        refine ⟨rfl, OldK.of_keep fun b o e => ?_, os, bare⟩
        cases q : H b with
        | none => exact un.keep b o e q (by intro z; exact absurd (show b ∈ ([] : List Addr) from z) (by simp)) (by simp)
        | some u =>
          rcases hO b with z | ⟨ob, xs, z⟩
          · rw [q] at z; cases z
          · have z2 := un.frzs b ob _ z
            obtain ⟨e1, _⟩ := hok b _ z
            obtain ⟨e2, _⟩ := hok' b _ z2
            rw [e] at e1; cases e1
            exact e2
  cases hk : K.lookup a with
  | some o =>
    -- the script is one of the module's own objects
    have e := KX a o hk
    rw [ha] at e
    cases e
    refine core (fun _ => none) (fun _ => .inl rfl) (.inr ⟨_, vs.toArray, _, hk, rfl, rfl, rfl, by rw [List.size_toArray, lenV]; exact hl, by simpa using rv⟩) (fun b u z => by have z' : (none : Option HO) = some u := z; cases z') (fun b z => absurd rfl z) fun z => absurd rfl z
  | none =>
    refine core (fun b => if b = a then some (.frz { cls := .type "list", data := .seq vs.toArray } (.lst (ns.map V.int))) else none) (fun b => ?_) (.inl (.inr ⟨{ cls := .type "list", data := .seq vs.toArray }, if_pos rfl⟩)) (fun b u z => ?_) (fun b z => ?_) fun _ => hk
    · by_cases hb : b = a
      · exact .inr ⟨_, _, if_pos hb⟩
      · exact .inl (if_neg hb)
    · by_cases hb : b = a
      · have z' := (if_pos hb).symm.trans z
        cases z'
        subst hb
        exact ⟨ha, by rw [List.length_map]; exact hl, vs, _, rv, ha⟩
      · have z' := (if_neg hb).symm.trans z
        cases z'
    · by_cases hb : b = a
      · exact hb
      · exact absurd (if_neg hb) z
end L2
namespace L2
open PySem PySem.Spec PyProof.Rows
abbrev KOf {K : PySem.W.Frag} {h : Heap} (_ : K.In h) : PySem.W.Frag := K
theorem walk_of {l : PySem.W.OpenLaw} {n k : Nat} {q : Program} {loose : List Str} {XP : (Str → Option Value) → Heap → Prop} {YP : World → Heap → Prop} {d : DefRec} {K : Params → PySem.W.Frag} {CX : World → CXT} {sp : World → Sp} {x : Str}
    (hn : l.most = some n) (hn2 : n ≤ sizeLine) (hdf : d.params.defaults = []) (hr : Room k callerA)
    (hY : ∀ (w : World) (h : Heap), YP w h → (K w.params).In h)
    (F : ∀ (w : World) (mg : Str → Option Value) (fa : Addr) (h : Heap), (K w.params).In h → h.Ns mainGlobals mg → mg d.name = some (.ref fa) →
      ∃ fd : FuncData, (∀ (s : Shared) (u : Value), BindsTo s fd ⟨[u], []⟩ [(x, u)]) ∧
        ∀ base : Heap, (K w.params).In base → base.Ns mainGlobals mg → FnOk l.prog w (K w.params) mg base (CX w) k fa fd [x] (sp w))
    (hsp : ∀ (w : World) (H : Hp) (a : Addr) (ns : List Int), ns.length ≤ n → Only H → SqL (K w.params) H a (ns.map V.int) → sp w [.ref a] H (fun v _ => v = .bl true) fun _ _ _ => False)
    (hCX : ∀ (w : World) (H : Hp) (s : Shared) (e : Value) (s' : Shared), CX w [] H s (fun _ _ _ => False) e s' → False) :
    PySem.W.WalkO q loose XP YP l.row.toRowW d [] (fun f vs => PySem.call f vs) := by
  refine Att.attach_call hn hdf fun w s₀ s₁ mg mb fa o pm cd doc a vs ns G Y ho hd hcd hmg hobj hints hlen hg => ?_
  have KX := hY w _ Y
  obtain ⟨fd, hb, hF⟩ := F w mg fa _ KX G.T.g hmg
  exact law_call KX G.T.g G.T.b G.T.builtins G.T.nolimit hg hobj hints (Nat.le_trans hlen hn2) hr hF hb (fun H hO hS => hsp w H a ns hlen hO hS) fun H e s' => hCX w H s₁ e s'
end L2

/- THE LAST THEOREM (shape; LID, My.* are yours):
   My.Adr: a structure of the addresses that your layer names (classes, functions); My.Txt K t: a structure (Prop) of the equations over K;
   My.txt_mk : {K} {implicit addresses ..} (e1 : nsIn K mainGlobals "law" = some (some (.ref f))) (e2 : K.lookup f = some ⟨oc, od, .func (fnOf "law" "law" params body scope dV kV doc pm an cdv ct), sl⟩) (e3 : codeIn K cdv "law" = true) .. : ∃ t, My.Txt K t

set_option maxRecDepth 100000 in
set_option maxHeartbeats 0 in
theorem PySem.Challenge.cw_LID_holds : PySem.Challenge.rw_LID.Holds := by
  w_on; o_law; k_head; (case hw => w_witness2)
  k_fill
  refine L2.walk_of (l := PySem.Challenge.rw_LID) (n := 63) (k := 40) (x := "script") (CX := fun w => ..) (sp := fun _ => My.sp_law) rfl (by decide) rfl ⟨rfl, by decide, by decide⟩ (fun w h Y => PySem.W.kIn_of Y) ?F ?S ?C
  case F =>
    intro w mg fa h KX G hmg
    have T : ∃ t, My.Txt (L2.KOf KX) t := by
      dsimp only [L2.KOf]                          -- K must stand as «<heap const> w.params» for k_is
      refine' My.txt_mk ?e1 ?e2 ?e3 ..
      (case e1 => PySem.W.k_is)                    -- in the order: a name -> its address -> its object -> its parts
      (case e2 => PySem.W.k_is)
      ..
    obtain ⟨t, T⟩ := T
    have e0 := hmg.symm.trans (PySem.W.mg_of KX G T.law)
    cases e0                                       -- fa is the law's own address
    exact ⟨_, fun s u => .of_eq rfl, fun base kb nb => My.law_fn T kb nb⟩     -- if «.of_eq rfl» comes too early: refine' ⟨_, ?b, fun base kb nb => My.law_fn T kb nb⟩; exact fun s u => .of_eq rfl
  case S => exact fun w H a ns hl hO hS => ..
  case C => exact ..
(the tactic k_is has no namespace: write k_is) -/
namespace L2
open PySem PySem.Spec PyProof.Rows
def defArgs (s : Stmt) : Arguments := match s with
  | .FunctionDef _ a _ _ _ _ _ _ _ _ => a
  | _ => { posonlyargs := [], args := [], vararg := none, kwonlyargs := [], kw_defaults := [], kwarg := none, defaults := [] }
def defBody (s : Stmt) : List Stmt := match s with
  | .FunctionDef _ _ b _ _ _ _ _ _ _ => b
  | _ => []
def defScope (s : Stmt) : Scope := match s with
  | .FunctionDef _ _ _ _ _ _ sc _ _ _ => sc
  | _ => { kind := .function, names := [], isGenerator := false, isCoroutine := false }
abbrev CX0 : CXT := fun _ _ _ _ _ _ => False
abbrev E0 : XK := fun _ _ _ => False
theorem pass0 {X : Cx} : Passes CX0 X E0 := fun _ _ _ _ _ _ _ h => h.elim
structure Fun (K : PySem.W.Frag) (x qual : Str) (st : Stmt) (f : Addr) (fd : FuncData) : Prop where
  ex : ∃ (oc : Value) (od : Option Addr) (kV doc pm : Value) (an : Option Addr) (cdv ct : Value) (osl : Array (Option Value)),
    fd = PySem.W.fnOf x qual (defArgs st) (defBody st) (defScope st) .none kV doc pm an cdv ct ∧ K.lookup f = some ⟨oc, od, .func fd, osl⟩ ∧ PySem.W.codeIn K cdv qual = true
  kp : PySem.W.keepIn K (.ref f) = true
section
variable {P : Program} {w : World} {K : PySem.W.Frag} {mg : Str → Option Value} {base : Heap}
theorem Fun.ok {x qual : Str} {st : Stmt} {f : Addr} {fd : FuncData} {N ps : List Str} {k : Nat} {sp : Sp} (F : Fun K x qual st f fd) (S : FnScope N ps (defScope st)) (len : ∀ vs H Q E, sp vs H Q E → vs.length = ps.length)
    (hbody : ∀ (cdv : Value) (A : Around) (outer : List Env) (s : Shared) (H : Hp) (vs : List V) (Q : VK) (E : XK), Room k (A.deeper (envOfC qual (defScope st) s.heap.objs.size f cdv)) → sp vs H Q E →
      ∃ t, PSs (cxOf CX0 P w K mg base N qual (defScope st) f cdv A outer s H E).nox (defBody st) t ∧ t { nx := fun _ H' => Q .non H', rt := Q } (start N vs) H) : FnOk P w K mg base CX0 (k + 1) f fd ps sp := by
  obtain ⟨oc, od, kV, doc, pm, an, cdv, ct, osl, rfl, lk, hcd⟩ := F.ex
  refine fn_of lk hcd S len fun A outer s H vs Q E hr hsp => ?_
  obtain ⟨t, h, q⟩ := hbody cdv A outer s H vs Q E hr hsp
  exact ⟨t, h.nox, q⟩
theorem Fun.binds {x qual : Str} {st : Stmt} {f : Addr} {fd : FuncData} {ps : List Str} (F : Fun K x qual st f fd)
    (h : ∀ (kV doc pm : Value) (an : Option Addr) (cdv ct : Value) (us : List Value), us.length = ps.length → bindArgs (PySem.W.fnOf x qual (defArgs st) (defBody st) (defScope st) .none kV doc pm an cdv ct) ⟨us, []⟩ = pure (ps.zip us)) : Binds K fd ps [] := by
  obtain ⟨oc, od, kV, doc, pm, an, cdv, ct, osl, rfl, lk, hcd⟩ := F.ex
  exact .all (h kV doc pm an cdv ct)
theorem fun_mk {x qual : Str} {st : Stmt} {f : Addr} {oc : Value} {od an : Option Addr} {osl : Array (Option Value)} {kV doc pm cdv ct : Value} (l : K.lookup f = some ⟨oc, od, .func (PySem.W.fnOf x qual (defArgs st) (defBody st) (defScope st) .none kV doc pm an cdv ct), osl⟩)
    (c : PySem.W.codeIn K cdv qual = true) (k : PySem.W.keepIn K (.ref f) = true) : Fun K x qual st f (PySem.W.fnOf x qual (defArgs st) (defBody st) (defScope st) .none kV doc pm an cdv ct) := ⟨⟨oc, od, kV, doc, pm, an, cdv, ct, osl, rfl, l, c⟩, k⟩
end
theorem small1000 {n : Nat} (h : n ≤ 1000) : n < sizeLine := Nat.lt_of_le_of_lt h (by decide)
section
variable {X : Cx}
theorem pv (i : Nat) {x : Str} {pos : Pos} (hN : X.N[i]? = some x := by rfl) (hv : Vis X.env.scope x := by first | exact Or.inl rfl | exact Or.inr (Or.inl rfl) | exact Or.inr (Or.inr rfl)) (hd : (x == ("__debug__" : Str)) = false := by decide)
    (hcd : (x == ("__classdict__" : Str)) = false := by decide) : PE X (.Name x pos) (tVar i) := pe_var hN hv hd hcd
end
theorem iteF {A B : Prop} (h : B) : if false = true then A else B := by
  rw [if_neg Bool.false_ne_true]
  exact h
theorem iteT {A B : Prop} (h : A) : if true = true then A else B := by
  rw [if_pos rfl]
  exact h
theorem ite2 {c A B : Prop} [Decidable c] (h1 : c → A) (h2 : ¬ c → B) : if c then A else B := by
  by_cases h : c
  · rw [if_pos h]
    exact h1 h
  · rw [if_neg h]
    exact h2 h
theorem iteNS {c A B : Prop} [Decidable c] (hc : c) (h : B) : if (!decide c) = true then A else B := by
  rw [decide_eq_true hc]
  exact iteF h
def Same (H H' : Hp) : Prop := ∀ b o, H b = some o → H' b = some o
theorem Same.refl (H : Hp) : Same H H := fun _ _ h => h
theorem Same.trans {H H1 H2 : Hp} (a : Same H H1) (b : Same H1 H2) : Same H H2 := fun c o h => b c o (a c o h)
theorem Same.free {H H' : Hp} (e : Same H H') {l : Addr} (h : H' l = Option.none) : H l = Option.none := by
  cases q : H l with
  | none => rfl
  | some o =>
    rw [e l o q] at h
    cases h
theorem Same.seq {K : PySem.W.Frag} {H H' : Hp} {a : Addr} {xs : List V} (e : Same H H') (h : SqL K H a xs) : SqL K H' a xs := by
  rcases h with (h | ⟨o, h⟩) | h
  · exact .inl (.inl (e _ _ h))
  · exact .inl (.inr ⟨o, e _ _ h⟩)
  · exact .inr h
end L2
set_option Elab.async false
set_option linter.all false
set_option maxRecDepth 100000
set_option maxHeartbeats 4000000
namespace L2
open PySem PySem.Spec PyProof.Rows
def closL (env : Env) : List (Str × NameKind) → List (Str × Addr) → List (Str × Addr)
  | [], acc => acc
  | (n, k) :: r, acc => if k == .free then closL env r ((n, (env.cells.lookup n).getD 0) :: acc) else closL env r acc
theorem closureFor_closL {env : Env} {scope : Scope} (h : ∀ x ∈ scope.names, x.2 = .free → ∃ c, env.cells.lookup x.1 = some c) : closureFor scope env = pure (closL env scope.names []) := by
  unfold closureFor
  have go : ∀ (names : List (Str × NameKind)) (acc : List (Str × Addr)), (∀ x ∈ names, x.2 = .free → ∃ c, env.cells.lookup x.1 = some c) →
      (forIn names acc fun x r => match x with
        | (name, kind) => if (kind == NameKind.free) = true then do let __do_lift ← cellOf env name; pure (ForInStep.yield ((name, __do_lift) :: r)) else pure (ForInStep.yield r) : Sem (List (Str × Addr))) = pure (closL env names acc) := by
    intro names
    induction names with
    | nil => intro acc _; rfl
    | cons x r ih =>
      intro acc hx
      obtain ⟨n, k⟩ := x
      rw [List.forIn_cons]
      have hr := fun y hy => hx y (List.mem_cons_of_mem _ hy)
      by_cases hk : k = .free
      · subst hk
        obtain ⟨c, hc⟩ := hx (n, .free) List.mem_cons_self rfl
        have hc' : env.cells.lookup n = some c := hc
        unfold closL
        simp only [beq_self_eq_true, if_true, cellOf, hc', Option.getD_some, pure_bind]
        exact ih _ hr
      · have hb : (k == NameKind.free) = false := by simpa using hk
        unfold closL
        simp only [hb, Bool.false_eq_true, if_false, pure_bind]
        exact ih _ hr
  have := go scope.names [] h
  simp only [this]
  first | rfl | simp
theorem closL_mem {env : Env} : ∀ (names : List (Str × NameKind)) (acc : List (Str × Addr)), (∀ x ∈ names, x.2 = .free → ∃ c, env.cells.lookup x.1 = some c) → (∀ p ∈ acc, env.cells.lookup p.1 = some p.2) →
    ∀ p ∈ closL env names acc, env.cells.lookup p.1 = some p.2
  | [], _, _, ha, p, hp => ha p hp
  | (n, k) :: r, acc, h, ha, p, hp => by
    unfold closL at hp
    have hr := fun y hy => h y (List.mem_cons_of_mem _ hy)
    split at hp
    · rename_i hk
      have hk : k = .free := by simpa using hk
      obtain ⟨c, hc⟩ := h (n, k) List.mem_cons_self hk
      have hc' : env.cells.lookup n = some c := hc
      refine closL_mem r _ hr (fun q hq => ?_) p hp
      rcases List.mem_cons.mp hq with rfl | hq
      · show env.cells.lookup n = some ((env.cells.lookup n).getD 0)
        rw [hc']; rfl
      · exact ha q hq
    · exact closL_mem r acc hr ha p hp
theorem closL_acc {env : Env} : ∀ (names : List (Str × NameKind)) (acc : List (Str × Addr)), ∀ p ∈ acc, p ∈ closL env names acc
  | [], _, _, hp => hp
  | (n, k) :: r, acc, p, hp => by
    unfold closL
    split
    · exact closL_acc r _ p (List.mem_cons_of_mem _ hp)
    · exact closL_acc r acc p hp
theorem closL_has {env : Env} : ∀ (names : List (Str × NameKind)) (acc : List (Str × Addr)) (n : Str), (n, NameKind.free) ∈ names → ∃ c, (n, c) ∈ closL env names acc
  | (m, k) :: r, acc, n, hn => by
    unfold closL
    rcases List.mem_cons.mp hn with e | hn
    · cases e
      simp only [beq_self_eq_true, if_true]
      exact ⟨_, closL_acc r _ _ List.mem_cons_self⟩
    · split
      · exact closL_has r _ n hn
      · exact closL_has r _ n hn
theorem closL_names {env : Env} : ∀ (names : List (Str × NameKind)) (acc : List (Str × Addr)), ∀ p ∈ closL env names acc, p ∈ acc ∨ (p.1, NameKind.free) ∈ names
  | [], _, _, hp => .inl hp
  | (n, k) :: r, acc, p, hp => by
    unfold closL at hp
    split at hp
    · rename_i hk
      have hk : k = .free := by simpa using hk
      subst hk
      rcases closL_names r _ p hp with z | z
      · rcases List.mem_cons.mp z with rfl | z
        · exact .inr List.mem_cons_self
        · exact .inl z
      · exact .inr (List.mem_cons_of_mem _ z)
    · rcases closL_names r _ p hp with z | z
      · exact .inl z
      · exact .inr (List.mem_cons_of_mem _ z)
theorem cellsFrom_mem : ∀ (names : List (Str × NameKind)) (n : Nat) (acc : List (Str × Addr)), ∀ p ∈ cellsFrom n names acc, p ∈ acc ∨ (n ≤ p.2 ∧ (p.1, NameKind.cell) ∈ names)
  | [], _, _, _, hp => .inl hp
  | (x, k) :: r, n, acc, p, hp => by
    unfold cellsFrom at hp
    split at hp
    · rename_i hk
      have hk : k = .cell := by simpa using hk
      subst hk
      rcases cellsFrom_mem r (n + 1) _ p hp with z | ⟨z, w⟩
      · rcases List.mem_cons.mp z with rfl | z
        · exact .inr ⟨Nat.le_refl _, List.mem_cons_self⟩
        · exact .inl z
      · exact .inr ⟨Nat.le_of_succ_le z, List.mem_cons_of_mem _ w⟩
    · rcases cellsFrom_mem r n acc p hp with z | ⟨z, w⟩
      · exact .inl z
      · exact .inr ⟨z, List.mem_cons_of_mem _ w⟩
theorem cellsFrom_acc : ∀ (names : List (Str × NameKind)) (n : Nat) (acc : List (Str × Addr)), ∀ p ∈ acc, p ∈ cellsFrom n names acc
  | [], _, _, _, hp => hp
  | (x, k) :: r, n, acc, p, hp => by
    unfold cellsFrom
    split
    · exact cellsFrom_acc r _ _ p (List.mem_cons_of_mem _ hp)
    · exact cellsFrom_acc r _ _ p hp
theorem cellsFrom_has : ∀ (names : List (Str × NameKind)) (n : Nat) (acc : List (Str × Addr)) (x : Str), (x, NameKind.cell) ∈ names → ∃ c, (x, c) ∈ cellsFrom n names acc
  | (y, k) :: r, n, acc, x, hx => by
    unfold cellsFrom
    rcases List.mem_cons.mp hx with e | hx
    · cases e
      simp only [beq_self_eq_true, if_true]
      exact ⟨_, cellsFrom_acc r _ _ _ List.mem_cons_self⟩
    · split
      · exact cellsFrom_has r _ _ x hx
      · exact cellsFrom_has r _ _ x hx
theorem cellsFrom_new : ∀ (names : List (Str × NameKind)) (h : Heap) (acc : List (Str × Addr)), ∀ p ∈ cellsFrom h.objs.size names acc, p ∈ acc ∨ (pushCells h names).IsCell p.2 none
  | [], _, _, _, hp => .inl hp
  | (x, k) :: r, h, acc, p, hp => by
    unfold cellsFrom at hp
    unfold pushCells
    split at hp
    · rename_i hk
      rw [if_pos hk]
      have := cellsFrom_new r (h.push { cls := .type "cell", data := .cell none }) ((x, h.objs.size) :: acc) p (by rw [Heap.size_push]; exact hp)
      rcases this with z | z
      · rcases List.mem_cons.mp z with rfl | z
        · exact .inr ⟨_, pushCells_keeps _ _ _ _ (Heap.get?_push_size _ rfl), rfl⟩
        · exact .inl z
      · exact .inr z
    · rename_i hk
      rw [if_neg hk]
      exact cellsFrom_new r h acc p hp
theorem cellsFrom_apart : ∀ (names : List (Str × NameKind)) (n : Nat) (acc : List (Str × Addr)), (acc.Pairwise fun x y => x.2 ≠ y.2) → (∀ p ∈ acc, p.2 < n) → (cellsFrom n names acc).Pairwise fun x y => x.2 ≠ y.2
  | [], _, _, h, _ => h
  | (x, k) :: r, n, acc, h, hl => by
    unfold cellsFrom
    split
    · refine cellsFrom_apart r (n + 1) _ (List.pairwise_cons.mpr ⟨fun y hy e => ?_, h⟩) fun p hp => ?_
      · have h1 := hl y hy
        have e' : n = y.2 := e
        exact absurd h1 (by rw [← e']; exact Nat.lt_irrefl _)
      · rcases List.mem_cons.mp hp with rfl | hp
        · exact Nat.lt_succ_self _
        · exact Nat.lt_succ_of_lt (hl p hp)
    · exact cellsFrom_apart r n acc h hl
theorem closL_apart {env : Env} (inj : ∀ x y c, env.cells.lookup x = some c → env.cells.lookup y = some c → x = y) : ∀ (names : List (Str × NameKind)) (acc : List (Str × Addr)), (names.map (·.1)).Nodup →
    (∀ x ∈ names, x.2 = .free → ∃ c, env.cells.lookup x.1 = some c) → (acc.Pairwise fun x y => x.2 ≠ y.2) → (∀ p ∈ acc, env.cells.lookup p.1 = some p.2 ∧ p.1 ∉ names.map (·.1)) → (closL env names acc).Pairwise fun x y => x.2 ≠ y.2
  | [], _, _, _, h, _ => h
  | (n, k) :: r, acc, nd, hf, h, ha => by
    unfold closL
    have nd' := List.nodup_cons.mp nd
    have hr := fun y hy => hf y (List.mem_cons_of_mem _ hy)
    split
    · rename_i hk
      have hk : k = .free := by simpa using hk
      obtain ⟨c, hc⟩ := hf (n, k) List.mem_cons_self hk
      have hc' : env.cells.lookup n = some c := hc
      refine closL_apart inj r _ nd'.2 hr (List.pairwise_cons.mpr ⟨fun y hy e => ?_, h⟩) fun p hp => ?_
      · have e' : (env.cells.lookup n).getD 0 = y.2 := e
        rw [hc'] at e'
        have e2 : c = y.2 := e'
        have q := (ha y hy).1
        have := inj n y.1 c hc' (by rw [e2]; exact q)
        exact (ha y hy).2 (by rw [← this]; exact List.mem_cons_self)
      · rcases List.mem_cons.mp hp with rfl | hp
        · refine ⟨?_, nd'.1⟩
          show env.cells.lookup n = some ((env.cells.lookup n).getD 0)
          rw [hc']; rfl
        · exact ⟨(ha p hp).1, fun z => (ha p hp).2 (List.mem_cons_of_mem _ z)⟩
    · exact closL_apart inj r acc nd'.2 hr h fun p hp => ⟨(ha p hp).1, fun z => (ha p hp).2 (List.mem_cons_of_mem _ z)⟩
theorem relabel_lookup {env : Env} : ∀ (names : List (Str × NameKind)) (x : Str),
    (names.map fun (n, k) => if (k == NameKind.free && env.scope.kind == .function && env.kindOf n == some .cell) then (n, NameKind.cell) else (n, k)).lookup x =
      (names.lookup x).map fun k => if (k == NameKind.free && env.scope.kind == .function && env.kindOf x == some .cell) then NameKind.cell else k
  | [], x => rfl
  | (n, k) :: r, x => by
    have ih := relabel_lookup (env := env) r x
    rw [List.map_cons]
    show List.lookup x ((if (k == NameKind.free && env.scope.kind == .function && env.kindOf n == some .cell) = true then (n, NameKind.cell) else (n, k)) :: _) = _
    split
    · rename_i hc
      rw [List.lookup_cons, List.lookup_cons]
      cases hx : x == n with
      | false => exact ih
      | true =>
        have e : x = n := by simpa using hx
        subst e
        simp only [Option.map_some]
        rw [if_pos hc]
    · rename_i hc
      rw [List.lookup_cons, List.lookup_cons]
      cases hx : x == n with
      | false => exact ih
      | true =>
        have e : x = n := by simpa using hx
        subst e
        simp only [Option.map_some]
        rw [if_neg hc]
theorem mem_lookup_nodup {α : Type} : ∀ {l : List (Str × α)} {n : Str} {c : α}, (l.map (·.1)).Nodup → (n, c) ∈ l → l.lookup n = some c
  | (k, v) :: r, n, c, nd, h => by
    have nd' := List.nodup_cons.mp nd
    rw [List.lookup_cons]
    rcases List.mem_cons.mp h with e | h2
    · cases e; simp
    · cases hb : n == k with
      | true =>
        have e : n = k := by simpa using hb
        exact absurd (List.mem_map.mpr ⟨(n, c), h2, e⟩ : k ∈ r.map (·.1)) nd'.1
      | false => exact mem_lookup_nodup nd'.2 h2
theorem lookup_of_mem {α : Type} : ∀ {l : List (Str × α)} {n : Str} {c : α}, (n, c) ∈ l → ∃ d, l.lookup n = some d
  | (k, v) :: r, n, c, h => by
    rw [List.lookup_cons]
    cases hb : n == k with
    | true => exact ⟨v, rfl⟩
    | false =>
      rcases List.mem_cons.mp h with e | h
      · cases e; simp at hb
      · exact lookup_of_mem h
abbrev compCx (X : Cx) (scope : Scope) (N' : List Str) (s2 : Shared) (H2 : Hp) (cs : List (Str × Addr)) (C : Addr) (fp : List Addr) : Cx where
  prog := X.prog
  w := X.w
  K := X.K
  mg := X.mg
  base := X.base
  A := X.A
  N := N'
  s₀ := s2
  H₀ := H2
  env := compEnvC scope cs C X.env
  outer := X.stack
  stack := X.stack
  ex := fp
  fn := fun x => scope.names.lookup x == some .cell
  calm := X.calm
  pn := X.pn
  xe := fun _ _ => False
def compOk (sc0 sc : Scope) (own cn N : List Str) (js : List Nat) : Bool :=
  (decide (sc.kind = .function)) && (sc.names.all fun x => !decide (x.2 = .free) || decide (sc0.names.lookup x.1 = some .cell) || decide (sc0.names.lookup x.1 = some .free))
  && decide ((sc.names.map (·.1)).Nodup) && (own.all fun x => decide (sc.names.lookup x = some .local) || decide (sc.names.lookup x = some .cell)) && (cn.all fun x => decide (sc.names.lookup x = some .free))
  && decide ((own ++ cn).Nodup) && decide (js.map (fun j => N[j]?) = cn.map some)
def capS (k : Nat) (js : List Nat) (σ : St) : St := List.replicate k none ++ js.map fun j => (σ[j]?).join
def PIfs (X : Cx) (ifs : List Expr) (t : TT) : Prop :=
  ∀ (pins : List (Addr × Obj)) (s : Shared) (σ : St) (H : Hp) (Q : Bool → Hp → Prop), Inv X pins σ H s → t σ H Q →
    wpAny (model X.prog X.w) X.A (forIn ifs true fun c r => if r = true then do let ok ← isTrue c X.env (eval c X.env); pure (ForInStep.yield ok) else pure (ForInStep.yield r)) (TP X pins σ Q) X.xe s
theorem pifs_nil {X : Cx} : PIfs X [] (fun _ H Q => Q true H) := fun _ _ _ H _ I h => wpAny_tests_nil ⟨H, I, h⟩
theorem pifs_one {X : Cx} {c : Expr} {t : TT} (h : PT X c t) : PIfs X [c] t := fun pins s σ H Q I hw => wpAny_tests_one (h pins s σ H Q I hw)
theorem comp_env {M : Model} {A : Around} {E : Value → Shared → Prop} {s : Shared} {scope : Scope} {env : Env} {cl : List (Str × Addr)} {Q : Env → Shared → Prop}
    (h : Q (newEnv scope s.heap.objs.size env.globals (cellsFrom (s.heap.objs.size + 1) scope.names cl) env.qual none .none (some env) builtinsNs) { s with heap := pushCells (s.heap.push { cls := .type "dict", data := .dict #[] }) scope.names }) :
    wpAny M A (newFunctionEnv scope env.globals cl [] env.qual none .none (some env)) Q E s := by
  simp only [newFunctionEnv, Option.isSome_some, if_true]
  refine wpAny_bind (wpAny_alloc ?_)
  refine wpAny_bind (wpAny_layCells _ (fun name kind cells => by cases hkc : kind == NameKind.cell <;> simp [hkc]) _ _ _ _ ?_)
  rw [show ({ s with heap := s.heap.push { cls := .type "dict", data := .dict #[] } } : Shared).heap.objs.size = s.heap.objs.size + 1 from Heap.size_push ..]
  refine wpAny_bind ?_
  rw [List.forIn_nil]
  exact wpAny_pure (wpAny_pure h)
theorem codeAny_compLoop_own {prog : Program} {w : World} {A : Around} {R : Result → Shared → Prop} {s : Shared} {elt target iter : Expr} {ifs : List Expr} {scope : Scope} {pos : Pos} {it acc : Value} {env : Env} (I : Nat → Shared → Prop)
    (turn : ∀ n s, I n s → wpAny (model prog w) A (pyNext it) (fun r s₁ => match r with
      | none => R (.ok .next) s₁
      | some v => wpAny (model prog w) A (letOwnedTupleGo target it v) (fun _ s₁' => wpAny (model prog w) A (assign target env v) (fun _ s₂ =>
          wpAny (model prog w) A (forIn ifs true fun c r => if r = true then do let ok ← isTrue c env (eval c env); pure (ForInStep.yield ok) else pure (ForInStep.yield r)) (fun ok s₃ =>
            if ok = true then wpAny (model prog w) A (eval elt env) (fun x s₄ =>
              wpAny (model prog w) A (call (.builtin "list.append") [acc, x]) (fun _ s₅ => ∃ m, m < n ∧ I m s₅) (fun _ _ => False) s₄) (fun _ _ => False) s₃
            else ∃ m, m < n ∧ I m s₃) (fun _ _ => False) s₂) (fun _ _ => False) s₁') (fun _ _ => False) s₁) (fun _ _ => False) s)
    (n : Nat) (h : I n s) :
    codeAny (model prog w) A (.compLoop (.ListComp elt [⟨target, iter, ifs, 0⟩] scope pos) 0 it acc env) R s := by
  refine codeAny_loop rfl I (fun n s hI => ?_) n h
  show wpAny _ A ((compTurn (.ListComp elt [⟨target, iter, ifs, 0⟩] scope pos) 0 it acc env).onRaise (fun x => do noteFrame x env; theTreesLotGoes x)) _ _ s
  refine wpAny_noted ?_
  rw [compTurn_list]
  refine wpAny_bind (wpAny_standAt (wpAny_bind (wpAny_mono (turn n s hI) (fun r s₁ h₁ => ?_) fun _ _ h' => False.elim h')))
  cases r with
  | none => exact wpAny_pure h₁
  | some v =>
    refine wpAny_bind (wpAny_mono h₁ (fun _ s₁' h₁' => ?_) fun _ _ h' => False.elim h')
    refine wpAny_bind (wpAny_mono h₁' (fun _ s₂ h₂ => wpAny_bind (wpAny_mono h₂ (fun ok s₃ h₃ => ?_) fun _ _ h' => False.elim h')) fun _ _ h' => False.elim h')
    cases ok with
    | false => exact wpAny_pure ⟨rfl, h₃⟩
    | true =>
      exact wpAny_bind (wpAny_bind (wpAny_mono h₃ (fun x s₄ h₄ => wpAny_bind (wpAny_mono h₄ (fun _ s₅ h₅ => wpAny_pure (wpAny_pure ⟨rfl, h₅⟩)) fun _ _ h' => False.elim h')) fun _ _ h' => False.elim h'))
def CompW (J : It) (g : TG) (tt : TT) (te : TE) (D : Addr) (σ' : St) (Q : List V → Hp → Prop) (W : Nat → Nat → List V → Hp → Prop) : Prop :=
  ∀ i m ys H, W i m ys H → (J.stop i H ∧ Q ys H) ∨ (J.go i H ∧ ∃ N : List V → Hp → Prop, (∀ ys' H', N ys' H' → ∃ m', m' < m ∧ W (i + 1) m' ys' H') ∧ ∀ x H', J.yld i H x H' → g x σ' H' fun σ2 H2 => tt σ2 H2 fun b H3 =>
    if b = true then te σ2 H3 fun v H4 => H4 D = some (.lst ys) ∧ ys.length < sizeLine ∧ N (ys ++ [v]) (upd H4 D (.lst (ys ++ [v]))) else N ys H3)
def tComp (wi : TI) (g : TG) (tt : TT) (te : TE) (k : Nat) (js : List Nat) : TE := fun σ H Q => wi σ H fun J H1 => ∀ D, H1 D = none →
  ∃ W : Nat → Nat → List V → Hp → Prop, (∃ m, W 0 m [] (upd H1 D (.lst []))) ∧ CompW J g tt te D (capS k js σ) (fun _ H => Q (.ref D) H) W
section
variable {X : Cx} {pins : List (Addr × Obj)} {σ : St} {H2 : Hp} {s2 : Shared} {tg elt iter : Expr} {ifs : List Expr} {scope : Scope} {pos : Pos} {own cn : List Str} {js : List Nat} {g : TG} {tt : TT} {te : TE}
theorem comp_block (hok : compOk X.env.scope scope own cn X.N js = true) (hc : X.calm = true)
    (hg : ∀ s2 H2 cs C fp, PG (compCx X scope (own ++ cn) s2 H2 cs C fp) tg g) (ht : ∀ s2 H2 cs C fp, PIfs (compCx X scope (own ++ cn) s2 H2 cs C fp) ifs tt) (he : ∀ s2 H2 cs C fp, PE (compCx X scope (own ++ cn) s2 H2 cs C fp) elt te)
    (I2 : Inv X pins σ H2 s2) {it : Addr} {fp : List Addr} {tn : Nat → Heap → Prop} {J : It} (T : Turn X.prog X.w X.K tg J fp it tn) (st2 : tn 0 s2.heap) (f2 : ∀ b ∈ fp, FpOk X pins H2 b)
    {Qe : Hp → Prop} (hW : ∃ W : Nat → Nat → List V → Hp → Prop, (∃ m, W 0 m [] (upd H2 s2.heap.objs.size (.lst []))) ∧ CompW J g tt te s2.heap.objs.size (capS own.length js σ) (fun _ H => Qe H) W)
    {RR : Value → Addr → Result → Shared → Prop}
    (hRR : ∀ C H' s', Inv X pins σ H' s' → FpOk X pins H' C → (∃ m, s'.heap.Ns C m) → Qe H' → RR (.ref s2.heap.objs.size) C (.ok .next) s') :
    wpAny (model X.prog X.w) X.A (newList []) (fun acc s₃ => wpAny (model X.prog X.w) X.A (newFunctionEnv scope X.env.globals (closL X.env scope.names []) [] X.env.qual none .none (some X.env)) (fun cenv s₄ =>
      codeAny (model X.prog X.w) X.A (.compStart (.ListComp elt [⟨tg, iter, ifs, 0⟩] scope pos) 0 (.ref it) acc { cenv with scope := relabel scope X.env }) (RR acc cenv.locals) s₄) X.xe s₃) X.xe s2 := by
  unfold compOk at hok
  simp only [Bool.and_eq_true, decide_eq_true_eq, List.all_eq_true, Bool.or_eq_true, Bool.not_eq_true', decide_eq_false_iff_not] at hok
  obtain ⟨⟨⟨⟨⟨⟨k1, k2⟩, k3⟩, k4⟩, k5⟩, k6⟩, k7⟩ := hok
  have hfreeK : ∀ x ∈ scope.names, x.2 = .free → X.env.kindOf x.1 = some .cell ∨ X.env.kindOf x.1 = some .free := fun x hx hf => by
    rcases k2 x hx with (z | z) | z
    · exact absurd hf z
    · exact .inl z
    · exact .inr z
  have hfree : ∀ x ∈ scope.names, x.2 = .free → ∃ c, X.env.cells.lookup x.1 = some c := fun x hx hf => I2.ok.has x.1 (hfreeK x hx hf)
  -- the heap behind the making
  refine wpAny_newObj_type (comp_env ?_)
  have hsz3 : (s2.heap.push { cls := .type "list", dict := none, data := .seq ([] : List Value).toArray }).objs.size = s2.heap.objs.size + 1 := Heap.size_push ..
  dsimp only
  generalize hh3 : s2.heap.push { cls := .type "list", dict := none, data := .seq ([] : List Value).toArray } = h3 at hsz3 ⊢
  have old3 : ∀ b o, s2.heap.get? b = some o → h3.get? b = some o := fun b o e => hh3 ▸ Heap.get?_push_of_some _ e
  have hD3 : h3.get? s2.heap.objs.size = some { cls := .type "list", data := .seq ([] : List Value).toArray } := hh3 ▸ Heap.get?_push_size _ rfl
  generalize hcs : cellsFrom (h3.objs.size + 1) scope.names (closL X.env scope.names []) = cs
  generalize hh4 : pushCells (h3.push { cls := .type "dict", data := .dict #[] }) scope.names = h4
  have old4 : ∀ b o, h3.get? b = some o → h4.get? b = some o := fun b o e => hh4 ▸ pushCells_keeps _ _ b o (Heap.get?_push_of_some _ e)
  have old : ∀ b o, s2.heap.get? b = some o → h4.get? b = some o := fun b o e => old4 b o (old3 b o e)
  have hD4 : h4.get? s2.heap.objs.size = some { cls := .type "list", data := .seq ([] : List Value).toArray } := old4 _ _ hD3
  have hNs : h4.Ns h3.objs.size (fun _ => none) := hh4 ▸ (Heap.Ns.new h3 (.type "dict")).keeps (pushCells_keeps _ _)
  generalize hC : h3.objs.size = C at hNs hcs ⊢
  have hCD : @Eq Nat C (s2.heap.objs.size + 1) := by rw [← hC]; exact hsz3
  have clM := closL_mem (env := X.env) scope.names [] hfree (fun p hp => absurd hp (by simp))
  have cellLt : ∀ x c, X.env.cells.lookup x = some c → @LT.lt Nat _ c s2.heap.objs.size := fun x c e => by obtain ⟨v, z⟩ := I2.cell x c e; exact z.lt
  have apart : cs.Pairwise fun x y => x.2 ≠ y.2 := by
    rw [← hcs]
    refine cellsFrom_apart _ _ _ (closL_apart I2.ok.inj scope.names [] k3 hfree List.Pairwise.nil fun p hp => absurd hp (by simp)) fun p hp => ?_
    have := cellLt _ _ (clM p hp)
    show @LT.lt Nat _ p.2 (C + 1)
    omega
  have csM : ∀ p ∈ cs, X.env.cells.lookup p.1 = some p.2 ∨ (C + 1 ≤ p.2 ∧ (p.1, NameKind.cell) ∈ scope.names ∧ h4.IsCell p.2 none) := fun p hp => by
    have hp0 := hp
    rw [← hcs] at hp
    rcases cellsFrom_mem _ _ _ p hp with z | ⟨z, y⟩
    · exact .inl (clM p z)
    · have e : h3.objs.size + 1 = (h3.push { cls := .type "dict", data := .dict #[] }).objs.size := by rw [Heap.size_push]
      have hp' := hp
      rw [← hC, e] at hp'
      rcases cellsFrom_new _ _ _ p hp' with q | q
      · exact .inl (clM p q)
      · exact .inr ⟨z, y, hh4 ▸ q⟩
  -- facts of the block's context
  have hX : (compCx X scope (own ++ cn) s2 H2 cs C fp).Ok := by
    refine ⟨I2.ok.mod, k1, I2.ok.glob, I2.ok.blt, by show @LE.le Nat _ s2.heap.objs.size C; omega, fun x y c h1 h2 => name_of_addr apart (PySem.mem_of_lookup h1) (PySem.mem_of_lookup h2), fun x hx => ?_, fun x c hf hx => ?_, I2.ok.hd, I2.ok.frames, .inl rfl, fun b hb => ?_, I2.bs, Nat.le_trans I2.ok.bsz I2.sz, fun b o e hb => ?_, fun b hb hf => ?_, I2.stack, I2.stkFree⟩
    · have hx' : (relabel scope X.env).names.lookup x = some .cell ∨ (relabel scope X.env).names.lookup x = some .free := hx
      have hl : scope.names.lookup x = some .cell ∨ scope.names.lookup x = some .free := by
        unfold relabel at hx'
        dsimp only at hx'
        rw [relabel_lookup] at hx'
        cases e : scope.names.lookup x with
        | none => rw [e] at hx'; simp at hx'
        | some k =>
          rw [e] at hx'
          cases k <;> simp_all
      have : ∃ c, (x, c) ∈ cs := by
        rw [← hcs]
        rcases hl with hl | hl
        · exact cellsFrom_has _ _ _ x (PySem.mem_of_lookup hl)
        · obtain ⟨c, hc'⟩ := closL_has (env := X.env) scope.names [] x (PySem.mem_of_lookup hl)
          exact ⟨c, cellsFrom_acc _ _ _ _ hc'⟩
      obtain ⟨c, hm⟩ := this
      exact lookup_of_mem hm
    · have hf' : scope.names.lookup x = some .cell := by simpa using hf
      have hm := PySem.mem_of_lookup (show cs.lookup x = some c from hx)
      rcases csM _ hm with z | ⟨z, _⟩
      · -- own cells are not captured ones: the captured of that name would be free in the scope
        rw [← hcs] at hm
        rcases cellsFrom_mem _ _ _ _ hm with q | ⟨q, _⟩
        · rcases closL_names (env := X.env) scope.names [] _ q with q' | q'
          · exact absurd q' (by simp)
          · have := mem_lookup_nodup k3 q'
            have h2 : scope.names.lookup x = some .free := this
            rw [hf'] at h2; cases h2
        · show @LE.le Nat _ s2.heap.objs.size c
          have q2 : @LE.le Nat _ (C + 1) c := q
          omega
      · show @LE.le Nat _ s2.heap.objs.size c
        have z2 : @LE.le Nat _ (C + 1) c := z
        omega
    · obtain ⟨f0, f1, f2', f3, f4, f5⟩ := f2 b hb
      obtain ⟨o, ho, _⟩ := T.obj 0 _ st2 b hb
      have hb2 : @LT.lt Nat _ b s2.heap.objs.size := Heap.lt_size ho
      refine ⟨?_, fun x c e => ?_⟩
      · show @Ne Nat b C
        omega
      · rcases csM _ (PySem.mem_of_lookup (show cs.lookup x = some c from e)) with z | ⟨z, _⟩
        · exact f4 x c z
        · have z2 : @LE.le Nat _ (C + 1) c := z
          show @Ne Nat c b
          omega
    · obtain ⟨f0, f1, f2', f3, f4, f5⟩ := f2 b hb
      rcases f3 with z | z
      · exact I2.ok.noex b o e z
      · exact absurd (Nat.lt_of_lt_of_le (Heap.lt_size e) (Nat.le_trans I2.ok.bsz z)) (Nat.lt_irrefl _)
    · obtain ⟨f0, f1, f2', _⟩ := f2 b hb
      rcases List.mem_cons.mp (I2.stkSub b hf) with z | z
      · exact f1 z
      · exact f2' z
  have hDn : H2 s2.heap.objs.size = none := I2.fresh
  have hCn : H2 C = none := I2.hok.fresh (show @LE.le Nat _ s2.heap.objs.size C by omega)
  have stkNe : ∀ b, b ≠ X.env.locals → b ∉ X.fs → b ∉ frs X.stack := fun b h1 h2 hb => by
    rcases List.mem_cons.mp (I2.stkSub b hb) with z | z
    · exact h1 z
    · exact h2 z
  have I4 : Inv (compCx X scope (own ++ cn) s2 H2 cs C fp) pins (capS own.length js σ) (upd H2 s2.heap.objs.size (.lst [])) { s2 with heap := h4 } := by
    refine ⟨hX, rfl, I2.bare, Un.laid old (Nat.le_refl _) hDn, ⟨fun _ => none, hNs, fun i x v e1 e2 e3 => ?_⟩, fun x c e => ?_, ?_, fun x c e => ?_, fun p hp => ?_, I2.hok.laid old (Nat.le_refl _) ⟨Nat.zero_le _, [], 0, .nil, hD4⟩, ?_⟩
    · -- a captured name
      have hi : own.length ≤ i := by
        rcases Nat.lt_or_ge i own.length with z | z
        · exfalso
          unfold capS at e2
          rw [List.getElem?_append_left (by simpa using z), List.getElem?_replicate, if_pos z] at e2
          cases e2
        · exact z
      have e1' : cn[i - own.length]? = some x := by
        have : (own ++ cn)[i]? = some x := e1
        rw [List.getElem?_append_right hi] at this
        exact this
      have e2' : (js.map fun j => (σ[j]?).join)[i - own.length]? = some (some v) := by
        unfold capS at e2
        rw [List.getElem?_append_right (by simpa using hi)] at e2
        simpa using e2
      rw [List.getElem?_map] at e2'
      cases hj : js[i - own.length]? with
      | none => rw [hj] at e2'; cases e2'
      | some j =>
        rw [hj] at e2'
        have e2'' : (σ[j]?).join = some v := by simpa using e2'
        have hσ : σ[j]? = some (some v) := by
          cases q : σ[j]? with
          | none => rw [q] at e2''; cases e2''
          | some z => rw [q] at e2''; simp at e2''; rw [e2'']
        have hNx : X.N[j]? = some x := by
          have := congrArg (fun l => l[i - own.length]?) k7
          simp only [List.getElem?_map, hj, e1', Option.map_some] at this
          exact Option.some.inj this
        have hfx : scope.names.lookup x = some .free := k5 x (List.mem_of_getElem? e1')
        have hK := hfreeK (x, .free) (PySem.mem_of_lookup hfx) rfl
        have hK' : X.env.kindOf x = some .cell ∨ X.env.kindOf x = some .free := hK
        obtain ⟨m, hn, hl⟩ := I2.loc
        have hvis : Vis X.env.scope x := by
          rcases hK' with z | z
          · exact .inr (.inl z)
          · exact .inr (.inr z)
        obtain ⟨u, r, l⟩ := hl j x v hNx hσ hvis
        refine ⟨u, r, .inr ?_⟩
        rcases l with ⟨l1, _⟩ | ⟨l1, c, l2, l3⟩
        · rcases hK' with z | z
          · rw [z] at l1; cases l1
          · rw [z] at l1; cases l1
        · have hrl : (compEnvC scope cs C X.env).kindOf x = some .cell ∨ (compEnvC scope cs C X.env).kindOf x = some .free := by
            show (relabel scope X.env).names.lookup x = _ ∨ (relabel scope X.env).names.lookup x = _
            unfold relabel
            dsimp only
            rw [relabel_lookup, hfx]
            simp only [Option.map_some]
            split
            · exact .inl rfl
            · exact .inr rfl
          refine ⟨hrl, c, ?_, l3.keeps fun b o e => old b o e⟩
          show cs.lookup x = some c
          obtain ⟨c', hc'⟩ := hX.has x hrl
          have hc2 : cs.lookup x = some c' := hc'
          rw [hc2]
          have hm := PySem.mem_of_lookup hc2
          have : X.env.cells.lookup x = some c' := by
            rcases csM _ hm with z | ⟨_, z, _⟩
            · exact z
            · have := mem_lookup_nodup k3 z
              have h2 : scope.names.lookup x = some .cell := this
              rw [hfx] at h2; cases h2
          rw [l2] at this
          exact this.symm
    · rcases csM _ (PySem.mem_of_lookup (show cs.lookup x = some c from e)) with z | ⟨_, _, z⟩
      · obtain ⟨v, q⟩ := I2.cell _ _ z
        exact ⟨v, q.keeps fun b o e => old b o e⟩
      · exact ⟨none, z⟩
    · show upd H2 s2.heap.objs.size (.lst []) C = none
      rw [upd_ne (show @Ne Nat C s2.heap.objs.size by omega)]; exact hCn
    · have hne : c ≠ s2.heap.objs.size ∧ H2 c = none := by
        rcases csM _ (PySem.mem_of_lookup (show cs.lookup x = some c from e)) with z | ⟨z, _, _⟩
        · exact ⟨Nat.ne_of_lt (cellLt _ _ z), I2.freeC _ _ z⟩
        · have z2 : @LE.le Nat _ (C + 1) c := z
          exact ⟨show @Ne Nat c s2.heap.objs.size by omega, I2.hok.fresh (show @LE.le Nat _ s2.heap.objs.size c by omega)⟩
      rw [upd_ne hne.1]; exact hne.2
    · obtain ⟨e, n, ne, nf, d⟩ := I2.pin p hp
      have hlt : @LT.lt Nat _ p.1 s2.heap.objs.size := Heap.lt_size e
      refine ⟨old _ _ e, ?_, ?_, stkNe _ ne nf, d⟩
      · rw [upd_ne (Nat.ne_of_lt hlt)]; exact n
      · show @Ne Nat p.1 C
        omega
    · show (capS own.length js σ).length = (own ++ cn).length
      unfold capS
      have hl := congrArg List.length k7
      simp only [List.length_map] at hl
      simp [hl]
  have stat : ∀ {H' : Hp}, (∀ b ∈ fp, H' b = none) → ∀ b ∈ fp, FpOk (compCx X scope (own ++ cn) s2 H2 cs C fp) pins H' b := fun hn b hb => by
    obtain ⟨f0, f1, f2', f3, f4, f5⟩ := f2 b hb
    exact ⟨hn b hb, (hX.exf b hb).1, stkNe b f1 f2', .inl hb, fun x c e => (hX.exf b hb).2 x c e, f5⟩
  have back : ∀ {σ' : St} {H' : Hp} {s' : Shared}, Inv (compCx X scope (own ++ cn) s2 H2 cs C fp) pins σ' H' s' → Inv X pins σ H' s' := fun {σ' H' s'} J' =>
    I2.call' (ch := fp) J'.os J'.base J'.hok J'.bare fun b hb => by
      obtain ⟨f0, f1, f2', f3, f4, f5⟩ := f2 b hb
      exact ⟨f3, f1, f4, f5⟩
  obtain ⟨W, ⟨m0, w0⟩, turn⟩ := hW
  have loop : codeAny (model X.prog X.w) X.A (.compLoop (.ListComp elt [⟨tg, iter, ifs, 0⟩] scope pos) 0 (.ref it) (.ref s2.heap.objs.size) (compEnvC scope cs C X.env)) (RR (.ref s2.heap.objs.size) C) { s2 with heap := h4 } := by
    refine codeAny_compLoop_own (fun n s' => ∃ i ys H', Inv (compCx X scope (own ++ cn) s2 H2 cs C fp) pins (capS own.length js σ) H' s' ∧ tn i s'.heap ∧ (∀ b ∈ fp, H' b = none) ∧ W i n ys H') ?_ m0
      ⟨0, [], _, I4, T.keep _ _ _ st2 fun b hb o e => old b o e, fun b hb => ?_, w0⟩
    · rintro n s3 ⟨i, ys, H3, I3, st3, fr3, w3⟩
      rcases turn i n ys H3 w3 with ⟨stop, q⟩ | ⟨go, N, hN, step⟩
      · refine thn (T.done (compCx X scope (own ++ cn) s2 H2 cs C fp) rfl rfl rfl hc i pins s3 _ H3 _ I3 (stat fr3) st3 stop) fun r s4 ⟨hr, I5⟩ => ?_
        subst hr
        obtain ⟨m, hn, _⟩ := I5.loc
        exact hRR C H3 s4 (back I5) (I2.fpOk (show @LE.le Nat _ s2.heap.objs.size C by omega) I5.free) ⟨m, hn⟩ q
      · refine thn (T.item (compCx X scope (own ++ cn) s2 H2 cs C fp) rfl rfl rfl hc i pins s3 _ H3 _ I3 (stat fr3) st3 go) fun r s4 ⟨u, hr, h4'⟩ => ?_
        subst hr
        refine thn h4' fun _ s5 ⟨x, H5, I5, r5, y5, st5, fr5⟩ => ?_
        have I5' := I5.pinned (stat fr5) (T.obj _ _ st5)
        refine thn (hg s2 H2 cs C fp _ s5 _ H5 x u _ I5' r5 (step x H5 y5)) fun _ s6 ⟨σ6, H6, I6, q6⟩ => ?_
        refine thn (ht s2 H2 cs C fp _ s6 σ6 H6 _ I6 q6) fun b s7 ⟨H7, I7, q7⟩ => ?_
        have again : ∀ {σ8 : St} {H8 : Hp} {s8 : Shared} {ys8 : List V}, Inv (compCx X scope (own ++ cn) s2 H2 cs C fp) (pins ++ pinsAt fp s5.heap) σ8 H8 s8 → (∀ (j : Nat) v, (capS own.length js σ)[j]? = some (some v) → σ8[j]? = some (some v)) → (∃ m', m' < n ∧ W (i + 1) m' ys8 H8) →
            ∃ m, m < n ∧ ∃ i ys H', Inv (compCx X scope (own ++ cn) s2 H2 cs C fp) pins (capS own.length js σ) H' s8 ∧ tn i s8.heap ∧ (∀ b ∈ fp, H' b = none) ∧ W i m ys H' := fun {σ8 H8 s8 ys8} I8 hw8 ⟨m', hm, w8⟩ => by
          refine ⟨m', hm, i + 1, ys8, H8, I8.unpinned.weak (by rw [I8.len, I4.len]) hw8, T.keep _ _ _ st5 fun b hb o e => (I8.pin (b, o) (List.mem_append_right _ (List.mem_append_right _ (mem_pinsAt hb e)))).1, fun b hb => ?_, w8⟩
          obtain ⟨o, e, d⟩ := T.obj _ _ st5 b hb
          exact (I8.pin (b, o) (List.mem_append_right _ (List.mem_append_right _ (mem_pinsAt hb e)))).2.1
        -- the captured slots outlive the turn: what they said ahead of it is said of the cells
        have capK : ∀ {σ8 : St} {H8 : Hp} {s8 : Shared}, Inv (compCx X scope (own ++ cn) s2 H2 cs C fp) (pins ++ pinsAt fp s5.heap) σ8 H8 s8 → Inv (compCx X scope (own ++ cn) s2 H2 cs C fp) (pins ++ pinsAt fp s5.heap) (capS own.length js σ) H8 s8 := fun {σ8 H8 s8} I8 => by
          have IX := back I8.unpinned
          refine ⟨I8.ok, I8.os, I8.bare, I8.base, ?_, I8.cell, I8.free, I8.freeC, I8.pin, I8.hok, I4.len⟩
          obtain ⟨m, hn, _⟩ := I8.loc
          refine ⟨m, hn, fun i x v e1 e2 e3 => ?_⟩
          obtain ⟨mx, hnx, hlx⟩ := IX.loc
          have hi : own.length ≤ i := by
            rcases Nat.lt_or_ge i own.length with z | z
            · exfalso
              unfold capS at e2
              rw [List.getElem?_append_left (by simpa using z), List.getElem?_replicate, if_pos z] at e2
              cases e2
            · exact z
          have e1' : cn[i - own.length]? = some x := by
            have : (own ++ cn)[i]? = some x := e1
            rw [List.getElem?_append_right hi] at this
            exact this
          have e2' : (js.map fun j => (σ[j]?).join)[i - own.length]? = some (some v) := by
            unfold capS at e2
            rw [List.getElem?_append_right (by simpa using hi)] at e2
            simpa using e2
          rw [List.getElem?_map] at e2'
          cases hj : js[i - own.length]? with
          | none => rw [hj] at e2'; cases e2'
          | some j =>
            rw [hj] at e2'
            have e2'' : (σ[j]?).join = some v := by simpa using e2'
            have hσ : σ[j]? = some (some v) := by
              cases q : σ[j]? with
              | none => rw [q] at e2''; cases e2''
              | some z => rw [q] at e2''; simp at e2''; rw [e2'']
            have hNx : X.N[j]? = some x := by
              have := congrArg (fun l => l[i - own.length]?) k7
              simp only [List.getElem?_map, hj, e1', Option.map_some] at this
              exact Option.some.inj this
            have hfx : scope.names.lookup x = some .free := k5 x (List.mem_of_getElem? e1')
            have hK' : X.env.kindOf x = some .cell ∨ X.env.kindOf x = some .free := hfreeK (x, .free) (PySem.mem_of_lookup hfx) rfl
            have hvis : Vis X.env.scope x := by
              rcases hK' with z | z
              · exact .inr (.inl z)
              · exact .inr (.inr z)
            obtain ⟨u, r, l⟩ := hlx j x v hNx hσ hvis
            refine ⟨u, r, .inr ?_⟩
            rcases l with ⟨l1, _⟩ | ⟨l1, c, l2, l3⟩
            · rcases hK' with z | z
              · rw [z] at l1; cases l1
              · rw [z] at l1; cases l1
            · have hrl : (compEnvC scope cs C X.env).kindOf x = some .cell ∨ (compEnvC scope cs C X.env).kindOf x = some .free := by
                show (relabel scope X.env).names.lookup x = _ ∨ (relabel scope X.env).names.lookup x = _
                unfold relabel
                dsimp only
                rw [relabel_lookup, hfx]
                simp only [Option.map_some]
                split
                · exact .inl rfl
                · exact .inr rfl
              refine ⟨hrl, c, ?_, l3⟩
              show cs.lookup x = some c
              obtain ⟨c', hc'⟩ := hX.has x hrl
              have hc2 : cs.lookup x = some c' := hc'
              rw [hc2]
              have hm := PySem.mem_of_lookup hc2
              have : X.env.cells.lookup x = some c' := by
                rcases csM _ hm with z | ⟨_, z, _⟩
                · exact z
                · have := mem_lookup_nodup k3 z
                  have h2 : scope.names.lookup x = some .cell := this
                  rw [hfx] at h2; cases h2
              rw [l2] at this
              exact this.symm
        cases b with
        | false =>
          rw [if_neg Bool.false_ne_true]
          rw [if_neg Bool.false_ne_true] at q7
          exact again (capK I7) (fun _ _ e => e) (hN _ _ q7)
        | true =>
          rw [if_pos rfl]
          rw [if_pos rfl] at q7
          refine thn (he s2 H2 cs C fp _ s7 σ6 H7 _ I7 q7) fun y s8 ⟨v, H8, I8, r8, hD8, hz8, q8⟩ => ?_
          refine thn (mt_append (X := compCx X scope (own ++ cn) s2 H2 cs C fp) _ s8 σ6 H8 (.ref s2.heap.objs.size) [v] (.ref s2.heap.objs.size) [y] (fun _ H9 => H9 = upd H8 s2.heap.objs.size (.lst (ys ++ [v]))) I8 rfl (.cons r8 .nil) ⟨_, ys, v, rfl, rfl, hD8, hz8, rfl⟩) fun _ s9 ⟨z, H9, I9, r9, e9⟩ => ?_
          subst e9
          exact again (capK I9) (fun _ _ e => e) (hN _ _ q8)
    · obtain ⟨f0, _⟩ := f2 b hb
      obtain ⟨o, ho, _⟩ := T.obj 0 _ st2 b hb
      rw [upd_ne (Nat.ne_of_lt (Heap.lt_size ho))]; exact f0
  exact codeAny_compStart_list loop (T.self _ 0 _ _ _ (T.keep _ _ _ st2 fun b hb o e => old b o e) loop)
theorem pe_comp {wi : TI} (own cn : List Str) (js : List Nat) (hi : PI X tg iter wi) (hg : ∀ s2 H2 cs C fp, PG (compCx X scope (own ++ cn) s2 H2 cs C fp) tg g) (ht : ∀ s2 H2 cs C fp, PIfs (compCx X scope (own ++ cn) s2 H2 cs C fp) ifs tt)
    (he : ∀ s2 H2 cs C fp, PE (compCx X scope (own ++ cn) s2 H2 cs C fp) elt te) (hc : X.calm = true := by rfl) (hok : compOk X.env.scope scope own cn X.N js = true := by kernel_rfl)
    (hs : ∀ x, foldedSetIterable iter X.env x = pure x := by intro _; rfl) : PE X (.ListComp elt [⟨tg, iter, ifs, 0⟩] scope pos) (tComp wi g tt te own.length js) := by
  intro pins s σ H Q I h
  have hok' := hok
  unfold compOk at hok'
  simp only [Bool.and_eq_true, decide_eq_true_eq, List.all_eq_true, Bool.or_eq_true, Bool.not_eq_true', decide_eq_false_iff_not] at hok'
  obtain ⟨⟨⟨⟨⟨⟨k1, k2⟩, k3⟩, k4⟩, k5⟩, k6⟩, k7⟩ := hok'
  have hfree : ∀ x ∈ scope.names, x.2 = .free → ∃ c, X.env.cells.lookup x.1 = some c := fun x hx hf => I.ok.has x.1 (by
    rcases k2 x hx with (z | z) | z
    · exact absurd hf z
    · exact .inl z
    · exact .inr z)
  rw [eval_ListComp]
  refine wpAny_comprehension_free (use := none) rfl hs (closureFor_closL hfree) k1 (fun x hx hl => ?_) (thn (hi pins s σ H _ I h) fun v s1 h1 => thn h1 fun itv s2 h2 => ?_)
  · have := mem_lookup_nodup k3 (show (x.1, x.2) ∈ scope.names from hx)
    rw [this, hl]
  · obtain ⟨it, fp, tn, J, H2, e, I2, T, st2, f2, q⟩ := h2
    subst e
    refine comp_block (RR := fun acc C => compPost (model X.prog X.w) X.A X.xe none (EP X pins σ Q) acc C) hok hc hg ht he I2 T st2 f2 (q _ I2.fresh) ?_
    intro C H' s' I' fC ⟨m, hn⟩ q'
    obtain ⟨f0, f1, f2', f3, f4, f5⟩ := fC
    refine ⟨m, hn, fun h' hs' => ⟨.ref s2.heap.objs.size, H', ?_, rfl, q'⟩⟩
    exact I'.turned (t' := s'.toks) (fun b o hb e => (hs'.2 b hb).trans e) f0 f1 f3 f4 f5
theorem ps_setComp {wi : TI} {i : Nat} {x : Str} {px spos : Pos} (own cn : List Str) (js : List Nat) (hN : X.N.Nodup) (hix : X.N[i]? = some x) (hx : X.env.scope.names.lookup x = some .local) (hi : PI X tg iter wi)
    (hg : ∀ s2 H2 cs C fp, PG (compCx X scope (own ++ cn) s2 H2 cs C fp) tg g) (ht : ∀ s2 H2 cs C fp, PIfs (compCx X scope (own ++ cn) s2 H2 cs C fp) ifs tt)
    (he : ∀ s2 H2 cs C fp, PE (compCx X scope (own ++ cn) s2 H2 cs C fp) elt te) (hc : X.calm = true := by rfl) (hok : compOk X.env.scope scope own cn X.N js = true := by kernel_rfl)
    (hsw : swapsWith (.ListComp elt [⟨tg, iter, ifs, 0⟩] scope pos) (some (.Name x px)) spos.line X.env = pure true := by rfl)
    (hs : ∀ x, foldedSetIterable iter X.env x = pure x := by intro _; rfl) : PS X (.Assign [.Name x px] (.ListComp elt [⟨tg, iter, ifs, 0⟩] scope pos) spos) (tAsg (tComp wi g tt te own.length js) (gName i)) := by
  intro pins s σ H D I h
  have hok' := hok
  unfold compOk at hok'
  simp only [Bool.and_eq_true, decide_eq_true_eq, List.all_eq_true, Bool.or_eq_true, Bool.not_eq_true', decide_eq_false_iff_not] at hok'
  obtain ⟨⟨⟨⟨⟨⟨k1, k2⟩, k3⟩, k4⟩, k5⟩, k6⟩, k7⟩ := hok'
  have hfree : ∀ x ∈ scope.names, x.2 = .free → ∃ c, X.env.cells.lookup x.1 = some c := fun x hx hf => I.ok.has x.1 (by
    rcases k2 x hx with (z | z) | z
    · exact absurd hf z
    · exact .inl z
    · exact .inr z)
  rw [exec_Assign_Name_used _ _ _ _ hsw]
  refine wpAny_bind (wpAny_standAt (wpAny_bind ?_))
  show wpAny _ X.A (do let _ ← comprehension (.ListComp elt [⟨tg, iter, ifs, 0⟩] scope pos) scope X.env _ (newList []) false (eval iter X.env) (some (assign (.Name x px) X.env))) _ _ s
  refine wpAny_bind (wpAny_mono (wpAny_comprehension_free (use := some (assign (.Name x px) X.env)) (Q := fun _ s' => SP X pins D .next s') rfl hs (closureFor_closL hfree) k1 (fun x hx hl => ?_)
    (thn (hi pins s σ H _ I h) fun v s1 h1 => thn h1 fun itv s2 h2 => ?_)) (fun _ s' hq => wpAny_pure (wpAny_pure hq)) fun _ _ e => e)
  · have := mem_lookup_nodup k3 (show (x.1, x.2) ∈ scope.names from hx)
    rw [this, hl]
  · obtain ⟨it, fp, tn, J, H2, e, I2, T, st2, f2, q⟩ := h2
    subst e
    refine comp_block (RR := fun acc C => compPost (model X.prog X.w) X.A X.xe (some (assign (.Name x px) X.env)) (fun _ s' => SP X pins D .next s') acc C) hok hc hg ht he I2 T st2 f2 (q _ I2.fresh) ?_
    intro C H' s' I' fC ⟨m, hn⟩ q'
    obtain ⟨f0, f1, f2', f3, f4, f5⟩ := fC
    show wpAny _ X.A (assign (.Name x px) X.env (.ref s2.heap.objs.size)) _ _ _
    refine wpAny_assign_Name (store_ok2 I' hN hix (.inl hx) (v := .ref s2.heap.objs.size) rfl (fun s3 I3 hch => ?_) (.inr hx))
    obtain ⟨a, hsb, ha⟩ := hch
    have hCa : C ≠ a := by
      rcases ha with z | z
      · rw [z]; exact f1
      · exact fun e => f4 x a z e.symm
    refine ⟨m, hn.sameBut hsb hCa, fun h' hs' => ?_⟩
    exact ⟨_, H', I3.turned (t' := s3.toks) (fun b o hb e => (hs'.2 b hb).trans e) f0 f1 f3 f4 f5, q'⟩
end
section
variable {g : TG} {tt : TT} {te : TE} {D : Addr} {σ' : St} {Q : List V → Hp → Prop} {H1 : Hp}
abbrev CompTurn (g : TG) (tt : TT) (te : TE) (D : Addr) (σ' : St) (ys : List V) (N : List V → Hp → Prop) (x : V) (H : Hp) : Prop :=
  g x σ' H fun σ2 H2 => tt σ2 H2 fun b H3 => if b = true then te σ2 H3 fun v H4 => H4 D = some (.lst ys) ∧ ys.length < sizeLine ∧ N (ys ++ [v]) (upd H4 D (.lst (ys ++ [v]))) else N ys H3
theorem comp_range {lo : Int} {n : Nat} (Pv : Nat → List V → Hp → Prop) (h0 : Pv 0 [] (upd H1 D (.lst [])))
    (hs : ∀ i ys H, i < n → Pv i ys H → CompTurn g tt te D σ' ys (Pv (i + 1)) (.int (lo + i)) H) (hd : ∀ ys H, Pv n ys H → Q ys H) :
    ∃ W : Nat → Nat → List V → Hp → Prop, (∃ m, W 0 m [] (upd H1 D (.lst []))) ∧ CompW (Itr lo n) g tt te D σ' Q W := by
  refine ⟨fun i m ys H => m = n - i ∧ i ≤ n ∧ Pv i ys H, ⟨n, by simp, Nat.zero_le _, h0⟩, ?_⟩
  rintro i m ys H ⟨rfl, hi, p⟩
  by_cases hlt : i < n
  · refine .inr ⟨hlt, Pv (i + 1), fun ys' H' p' => ⟨n - (i + 1), by omega, rfl, hlt, p'⟩, fun x H' y => ?_⟩
    obtain ⟨e, y⟩ := y
    subst e y
    exact hs i ys _ hlt p
  · have e : i = n := by omega
    subst e
    exact .inl ⟨Nat.le_refl _, hd ys H p⟩
theorem comp_list {K : PySem.W.Frag} {a : Addr} {xs : List V} (Pv : Nat → List V → Hp → Prop) (h0 : Pv 0 [] (upd H1 D (.lst []))) (hl : ∀ i ys H, i ≤ xs.length → Pv i ys H → SqL K H a xs)
    (hs : ∀ i x ys H, xs[i]? = some x → Pv i ys H → CompTurn g tt te D σ' ys (Pv (i + 1)) x H) (hd : ∀ ys H, Pv xs.length ys H → Q ys H) :
    ∃ W : Nat → Nat → List V → Hp → Prop, (∃ m, W 0 m [] (upd H1 D (.lst []))) ∧ CompW (Itl K a) g tt te D σ' Q W := by
  refine ⟨fun i m ys H => m = xs.length - i ∧ i ≤ xs.length ∧ Pv i ys H, ⟨xs.length, by simp, Nat.zero_le _, h0⟩, ?_⟩
  rintro i m ys H ⟨rfl, hi, p⟩
  have q := hl i ys H hi p
  by_cases hlt : i < xs.length
  · refine .inr ⟨⟨xs, xs[i], q, by simp [hlt]⟩, Pv (i + 1), fun ys' H' p' => ⟨xs.length - (i + 1), by omega, rfl, hlt, p'⟩, fun x H' y => ?_⟩
    obtain ⟨e, y⟩ := y
    subst e
    exact hs i x ys _ (y xs q) p
  · have e : i = xs.length := by omega
    subst e
    exact .inl ⟨⟨xs, q, Nat.le_refl _⟩, hd ys H p⟩
theorem comp_tup {K : PySem.W.Frag} {a : Addr} {xs : List V} (Pv : Nat → List V → Hp → Prop) (h0 : Pv 0 [] (upd H1 D (.lst []))) (hl : ∀ i ys H, i ≤ xs.length → Pv i ys H → SqT K H a xs)
    (hs : ∀ i x ys H, xs[i]? = some x → Pv i ys H → CompTurn g tt te D σ' ys (Pv (i + 1)) x H) (hd : ∀ ys H, Pv xs.length ys H → Q ys H) :
    ∃ W : Nat → Nat → List V → Hp → Prop, (∃ m, W 0 m [] (upd H1 D (.lst []))) ∧ CompW (Itt K a) g tt te D σ' Q W := by
  refine ⟨fun i m ys H => m = xs.length - i ∧ i ≤ xs.length ∧ Pv i ys H, ⟨xs.length, by simp, Nat.zero_le _, h0⟩, ?_⟩
  rintro i m ys H ⟨rfl, hi, p⟩
  have q := hl i ys H hi p
  by_cases hlt : i < xs.length
  · refine .inr ⟨⟨xs, xs[i], q, by simp [hlt]⟩, Pv (i + 1), fun ys' H' p' => ⟨xs.length - (i + 1), by omega, rfl, hlt, p'⟩, fun x H' y => ?_⟩
    obtain ⟨e, y⟩ := y
    subst e
    exact hs i x ys _ (y xs q) p
  · have e : i = xs.length := by omega
    subst e
    exact .inl ⟨⟨xs, q, Nat.le_refl _⟩, hd ys H p⟩
end
end L2
set_option Elab.async false
set_option linter.all false
set_option maxRecDepth 100000
set_option maxHeartbeats 4000000
namespace PySem
open AutoSeq1 (wpAny_loadPart')
section
variable {prog : Program} {w : World} {A : Around} {E : Value → Shared → Prop} {s : Shared}
theorem hue_nextOf_tuple_item {it l : Addr} {i : Nat} {items} {x : Value} {Q : Value → Shared → Prop} (hit : s.heap.IsTupleIter it l i)
    (hl : s.heap.IsTuple l items) (hx : items[i]? = some x)
    (hQ : ∀ h', h'.IsTupleIter it l (i + 1) → Heap.SameBut it s.heap h' → Q x { s with heap := h' }) :
    wpAny (model prog w) A (Builtin.SmallTypes.nextOf (.ref it)) Q E s := by
  obtain ⟨o, ho, hc, hd⟩ := id hit
  obtain ⟨ol, hol, _, nl, hdl⟩ := hl
  unfold Builtin.SmallTypes.nextOf
  refine wpAny_bind (wpAny_callSpecial?_slot (name := Str.ofString "__next__") hit.typeIs F.slot_tuple_iterator_next
    (wpAny_call_entry F.slot_tuple_iterator_next hit.typeIs F.entry_tuple_iterator_next ?_ (F.args_tuple_iterator_next_1 _)))
  show wpAny _ _ (field (.ref it) 0 >>= _) _ _ s
  refine wpAny_bind (wpAny_field ho hd (x := .ref l) rfl ?_)
  show wpAny _ _ (if (Value.ref l == Value.none) = true then _ else _) _ _ s
  rw [if_neg (show ¬ ((Value.ref l == Value.none) = true) from Bool.false_ne_true)]
  show wpAny _ _ (field (.ref it) 1 >>= _) _ _ s
  refine wpAny_bind (wpAny_field ho hd (x := .int i 0) rfl ?_)
  show wpAny _ _ (seqItems? (.ref l) >>= _) _ _ s
  refine wpAny_bind (wpAny_seqItems hol hdl ?_)
  simp only [Int.toNat_natCast, hx]
  refine wpAny_bind (wpAny_setField ho hd (by simp) (wpAny_pure ⟨x, rfl, wpAny_pure (hQ _ ?_ (Heap.SameBut.update ..))⟩))
  exact ⟨_, Heap.get?_update_self _ ho (Obj.isFreed_of_fields (Obj.data_mapFields hd _)), (Obj.cls_mapFields ..).trans hc, by
    rw [Obj.data_mapFields hd]; simp [rawInt]⟩
theorem hue_nextOf_tuple_end {it l : Addr} {i : Nat} {items} {Q : Value → Shared → Prop} (hh : A.handled = none)
    (hit : s.heap.IsTupleIter it l i) (hl : s.heap.IsTuple l items) (hx : items[i]? = none)
    (hE : ∀ h' e, Heap.ExtBut it s.heap h' → (∃ o, h'.get? e = some o ∧ o.cls = .type "StopIteration") → E (.ref e) { s with heap := h' }) :
    wpAny (model prog w) A (Builtin.SmallTypes.nextOf (.ref it)) Q E s := by
  obtain ⟨o, ho, hc, hd⟩ := id hit
  obtain ⟨ol, hol, _, nl, hdl⟩ := hl
  unfold Builtin.SmallTypes.nextOf
  refine wpAny_bind (wpAny_callSpecial?_slot (name := Str.ofString "__next__") hit.typeIs F.slot_tuple_iterator_next
    (wpAny_call_entry F.slot_tuple_iterator_next hit.typeIs F.entry_tuple_iterator_next ?_ (F.args_tuple_iterator_next_1 _)))
  show wpAny _ _ (field (.ref it) 0 >>= _) _ _ s
  refine wpAny_bind (wpAny_field ho hd (x := .ref l) rfl ?_)
  show wpAny _ _ (if (Value.ref l == Value.none) = true then _ else _) _ _ s
  rw [if_neg (show ¬ ((Value.ref l == Value.none) = true) from Bool.false_ne_true)]
  show wpAny _ _ (field (.ref it) 1 >>= _) _ _ s
  refine wpAny_bind (wpAny_field ho hd (x := .int i 0) rfl ?_)
  show wpAny _ _ (seqItems? (.ref l) >>= _) _ _ s
  refine wpAny_bind (wpAny_seqItems hol hdl ?_)
  simp only [Int.toNat_natCast, hx]
  refine wpAny_bind (wpAny_rule (wpAny_bind (wpAny_setField ho hd (by simp) ?_)))
  first
    | refine wpAny_bind (wpAny_letGo ?_)
    | skip
  show wpAny _ _ (newExc (.type "StopIteration") [] >>= _) _ _ _
  refine wpAny_bind ?_
  simp only [newExc, newTuple]
  refine wpAny_bind (wpAny_newObj_type ?_ (by size_fits))
  refine wpAny_bind (m := firstArgMember _ _) (wpAny_of_eq (a := Value.none) (by first | rfl | (simp only [firstArgMember]; rfl)) ?_)
  refine wpAny_newObj_type ?_ (by size_fits)
  simp only [raiseNew]
  refine wpAny_bind (wpAny_handled ?_)
  first | rw [show A.in1.handled = none from hh] | rw [hh]
  refine wpAny_bind (wpAny_pure (wpAny_throw ?_))
  exact hE _ _ (((Heap.SameBut.update ..).extBut.push _).push _) ⟨_, Heap.get?_push_size _ rfl, rfl⟩
end
theorem hue_draws_tuple {prog : Program} {w : World} {A : Around} (hh : A.handled = none) (it l : Addr) (hne : l ≠ it) (items : Array Value) :
    Draws prog w A it [it, l] items.size (fun i v => items[i]? = some v) (fun i h => h.IsTupleIter it l i ∧ h.IsTuple l items) where
  live := fun _ _ st => let ⟨o, ho, _⟩ := st.1; ⟨o, ho⟩
  frame := fun _ _ _ st hk => ⟨st.1.at fun o e => hk it (by simp) o e, let ⟨o, ho, r⟩ := st.2; ⟨o, hk l (by simp) o ho, r⟩⟩
  item := fun i s Q E hi st hQ => by
    refine hue_nextOf_tuple_item st.1 st.2 (x := items[i]) (by simp [hi]) fun h' hit' hs' => ?_
    exact hQ _ h' s.toks (by simp [hi]) ⟨hit', st.2.extBut hs'.extBut hne⟩ hs'
  done := fun s Q E st hE => hue_nextOf_tuple_end hh st.1 st.2 (by simp) hE
theorem hue_enumerate_newT (l : Addr) (items : Array Value) (n : Nat) (dct : Option Addr) (sl : Array (Option Value)) :
    Meets (Builtin.«enumerate.__new__» ⟨[.type "enumerate", .ref l], []⟩) (fun _ R s => s.heap.get? l = some { cls := .type "tuple", dict := dct, data := .seq items n, slots := sl } ∧
      R (.ok (.ret (.ref (s.heap.push { cls := .type "tuple_iterator", data := .fields #[.ref l, .int 0 0] }).objs.size)))
        { s with heap := (s.heap.push { cls := .type "tuple_iterator", data := .fields #[.ref l, .int 0 0] }).push { cls := .type "enumerate", data := .fields #[.none, .bool false, .ref s.heap.objs.size, rawInt 0, .none, .none] } }) :=
  .of_wp fun prog w A R s h => by
    obtain ⟨hp, g, d, tk, os⟩ := s; obtain ⟨hl, h⟩ := h
    have hsub := sub_enumerate
    have hL : Heap.IsTuple (Shared.heap ⟨hp, g, d, tk, os⟩) l items := ⟨_, hl, rfl, n, rfl⟩
    wp_walk using wpAny_loadPart' hl
    refine wpAny_stack_any fun st => wpAny_pure ?_
    split
    · rename_i c _ _ _ _ _
      cases (c == Value.type "enumerate")
      · wp_walk using wpAny_loadPart' hl, wpAny_pyIter_tuple hL
        exact ⟨_, rfl, h⟩
      · wp_walk using wpAny_loadPart' hl, wpAny_pyIter_tuple hL
        exact ⟨_, rfl, h⟩
    · wp_walk using wpAny_loadPart' hl, wpAny_pyIter_tuple hL
      exact ⟨_, rfl, h⟩
section
variable {prog : Program} {w : World} {A : Around} {E : Value → Shared → Prop} {s : Shared}
theorem hue_call_enumerate_tuple {l : Addr} {items : Array Value} {Q : Value → Shared → Prop} (hL : s.heap.IsTuple l items)
    (h : ∀ h', IsEnum h' (s.heap.objs.size + 1) s.heap.objs.size 0 .none → h'.IsTupleIter s.heap.objs.size l 0 → h'.objs.size = s.heap.objs.size + 2 →
      (∀ b o, s.heap.get? b = some o → h'.get? b = some o) → Q (.ref (s.heap.objs.size + 1)) { s with heap := h' }) :
    wpAny (model prog w) A (call (.type "enumerate") [.ref l]) Q E s := by
  obtain ⟨⟨c, dct, dt, sl⟩, hl, hc, n, hd⟩ := hL
  replace hc : c = .type "tuple" := hc
  replace hd : dt = .seq items n := hd
  subst hc hd
  refine callType_new F.called_enumerate (by decide) (F.typeCall_enumerate_1 _) (F.newCall_enumerate_1 _) (fun obj => F.args_object_init_2 obj _) F.entry_enumerate_new
    (hue_enumerate_newT l items n dct sl) ⟨hl, ?_⟩
  have hz : (s.heap.push { cls := .type "tuple_iterator", data := .fields #[.ref l, .int 0 0] }).objs.size = s.heap.objs.size + 1 := Heap.size_push ..
  show _ ∧ _
  rw [hz]
  have he : IsEnum ((s.heap.push { cls := .type "tuple_iterator", data := .fields #[.ref l, .int 0 0] }).push
      { cls := .type "enumerate", data := .fields #[.none, .bool false, .ref s.heap.objs.size, rawInt 0, .none, .none] }) (s.heap.objs.size + 1) s.heap.objs.size 0 .none := by
    have := Heap.get?_push_size (s.heap.push { cls := .type "tuple_iterator", data := .fields #[.ref l, .int 0 0] })
      (o := { cls := .type "enumerate", data := .fields #[.none, .bool false, .ref s.heap.objs.size, rawInt 0, .none, .none] }) rfl
    rw [hz] at this; exact this
  refine ⟨⟨_, he, rfl⟩, h _ he ⟨_, Heap.get?_push_of_some _ (Heap.get?_push_size _ rfl), rfl, rfl⟩ (by rw [Heap.size_push, hz]) fun b o x => Heap.get?_push_of_some _ (Heap.get?_push_of_some _ x)⟩
end
end PySem
namespace L2
open PySem PySem.Spec PyProof.Rows
section
variable {X : Cx} {pins : List (Addr × Obj)} {σ : St} {H : Hp} {s : Shared} {h' : Heap}
theorem Inv.turnedL {t' : Nat} {ch : List Addr} (I : Inv X pins σ H s) (k : ∀ b o, b ∉ ch → s.heap.get? b = some o → h'.get? b = some o) (hf : ∀ b ∈ ch, FpOk X pins H b) : Inv X pins σ H { s with heap := h', toks := t' } := by
  have nit : ∀ b u, H b = some u → b ∉ ch := fun b u e z => by rw [(hf b z).1] at e; cases e
  refine I.step (g' := s.gens) (d' := s.drawn) (ch := ch) (fun b hb => ?_) (fun b o _ _ hc e _ => k b o hc e) (fun b o _ _ hc e _ => ⟨o.slots, k b o hc e⟩) (fun _ _ _ _ n => n)
    (fun b o hc e => ⟨o, k b o hc e⟩) (fun _ _ e => e) (fun _ _ _ e => e) (fun b ps e => ⟨#[], by rw [e]; simp⟩) (fun m hm => ?_) (fun b u e => ?_) I.bare
  · obtain ⟨f0, f1, f2, f3, f4, f5⟩ := hf b hb
    exact ⟨f3, f1, f4, f5⟩
  · obtain ⟨o, es, ep, ho, r⟩ := hm
    exact ⟨o, es, ep, k _ o (fun z => (hf _ z).2.1 rfl) ho, r⟩
  · refine (I.hok b u e).stay (fun c v hc q => k c v ?_ q) (fun _ q => q) fun _ _ q => q
    rcases hc with z | z
    · rw [z]; exact nit b u e
    · exact nit c _ z
theorem Inv.turnLay {t' : Nat} {ch : List Addr} {o : HO} (I : Inv X pins σ H s) (k : ∀ b u, b ∉ ch → s.heap.get? b = some u → h'.get? b = some u) (hf : ∀ b ∈ ch, FpOk X pins H b)
    (new : ObjOk X.prog X.w (upd H s.heap.objs.size o) h' s.heap.objs.size o) : Inv X pins σ (upd H s.heap.objs.size o) { s with heap := h', toks := t' } := by
  have hT : H s.heap.objs.size = none := I.fresh
  have nit : ∀ b u, H b = some u → b ∉ ch := fun b u e z => by rw [(hf b z).1] at e; cases e
  have lt : ∀ b u, s.heap.get? b = some u → b ≠ s.heap.objs.size := fun b u e => Nat.ne_of_lt (Heap.lt_size e)
  refine I.step (g' := s.gens) (d' := s.drawn) (ch := ch) (fun b hb => ?_) (fun b o _ _ hc e _ => k b o hc e) (fun b o _ _ hc e _ => ⟨o.slots, k b o hc e⟩) (fun b u _ e n => by rw [upd_ne (lt b u e)]; exact n)
    (fun b o hc e => ⟨o, k b o hc e⟩) (fun b xs e => by rw [upd_ne (ne_of_none e hT)]; exact e) (fun b u xs e => by rw [upd_ne (ne_of_none e hT)]; exact e) (fun b ps e => ⟨#[], by rw [upd_ne (ne_of_none e hT), e]; simp⟩) (fun m hm => ?_) (fun b u e => ?_) I.bare
  · obtain ⟨f0, f1, f2, f3, f4, f5⟩ := hf b hb
    exact ⟨f3, f1, f4, f5⟩
  · obtain ⟨o, es, ep, ho, r⟩ := hm
    exact ⟨o, es, ep, k _ o (fun z => (hf _ z).2.1 rfl) ho, r⟩
  · by_cases hb : b = s.heap.objs.size
    · subst hb; rw [upd_same] at e; cases e; exact new
    · rw [upd_ne hb] at e
      refine (I.hok b u e).stay (fun c v hc q => k c v ?_ q) (fun c q => by rw [upd_ne (ne_of_none q hT)]; exact q) fun c xs q => by rw [upd_ne (ne_of_none q hT)]; exact q
      rcases hc with z | z
      · rw [z]; exact nit b u e
      · exact nit c _ z
end
def IteL (K : PySem.W.Frag) (a : Addr) : It :=
  ⟨fun i H => ∃ xs x, SqL K H a xs ∧ xs[i]? = some x, fun i H x H' => ∃ p v, H p = none ∧ x = .ref p ∧ (∀ xs, SqL K H a xs → xs[i]? = some v) ∧ H' = upd H p (.tup [.int i, v]), fun i H => ∃ xs, SqL K H a xs ∧ xs.length = i⟩
def IteT (K : PySem.W.Frag) (a : Addr) : It :=
  ⟨fun i H => ∃ xs x, SqT K H a xs ∧ xs[i]? = some x, fun i H x H' => ∃ p v, H p = none ∧ x = .ref p ∧ (∀ xs, SqT K H a xs → xs[i]? = some v) ∧ H' = upd H p (.tup [.int i, v]), fun i H => ∃ xs, SqT K H a xs ∧ xs.length = i⟩
theorem two_le : 2 ≤ sizeLine := by decide
theorem turn_enumL {P : Program} {w : World} {K : PySem.W.Frag} {elts : List Expr} {kx : Nat} {tp : Pos} (a e it : Addr) (hei : e ≠ it) (hae : a ≠ e) (hai : a ≠ it) : Turn P w K (.Tuple elts kx tp) (IteL K a) [e, it] e (fun i h => (∃ old, IsEnum h e it i old) ∧ h.IsListIter it a i) where
  mem := by simp
  obj := fun i h st b hb => by
    rcases List.mem_cons.mp hb with rfl | hb
    · obtain ⟨⟨old, z⟩, _⟩ := st
      exact ⟨_, z, fun v q => by cases q⟩
    · have e' : b = it := by simpa using hb
      subst e'
      obtain ⟨o, q, c, d⟩ := st.2
      exact ⟨o, q, fun v z => by rw [d] at z; cases z⟩
  keep := fun i h h' st k => ⟨let ⟨old, z⟩ := st.1; ⟨old, k e (by simp) _ z⟩, st.2.at fun o q => k it (by simp) o q⟩
  item := by
    intro X hP hw hK hc i pins s σ H E I hf st hg
    subst hP hw hK
    obtain ⟨xs, x, hq, hx⟩ := hg
    obtain ⟨its, rv, p, hz⟩ := I.list hq
    obtain ⟨u, hu, ru⟩ := rv.get hx
    obtain ⟨⟨old, he⟩, hli⟩ := st
    have hil : i < its.toArray.size := by
      have := (List.getElem?_eq_some_iff.mp hu).1
      simpa using this
    refine wpAny_pyNext_enum_itemD (Draws.list (prog := X.prog) (w := X.w) (A := X.A.in1) (show X.A.in1.handled = none from I.ok.hd hc) it a hai its.toArray) he ⟨hli, p.isList⟩ hil hei (by simp [hei, Ne.symm hae]) fun y h' tk hy ho hs' hT hsz hk => ?_
    have hyu : y = u := by
      have : its.toArray[i]? = some u := by simpa using hu
      rw [this] at hy; exact (Option.some.inj hy).symm
    subst hyu
    refine ⟨_, rfl, ?_⟩
    have I1 : Inv X pins σ (upd H s.heap.objs.size (.tup [.int i, x])) { s with heap := h', toks := tk + 1 } :=
      I.turnLay (ch := [e, it]) (fun b o hb q => hk b o (fun z => hb (by simp [z])) (fun z => hb (by simp [z])) q) hf ⟨two_le, [.int i tk, y], .cons ⟨tk, rfl⟩ (.cons ru .nil), ⟨_, hT, rfl, _, rfl⟩⟩
    refine wpAny_letOwnedTupleGo_enum ho fun h2 he2 hs2 => ?_
    have hfp1 : ∀ b ∈ [e, it], FpOk X pins (upd H s.heap.objs.size (.tup [.int i, x])) b := fun b hb => by
      obtain ⟨f0, f1⟩ := hf b hb
      have hbl : b ≠ s.heap.objs.size := by
        rcases List.mem_cons.mp hb with rfl | hb
        · exact Nat.ne_of_lt (Heap.lt_size he)
        · have e' : b = it := by simpa using hb
          subst e'
          obtain ⟨o, q, _⟩ := hli
          exact Nat.ne_of_lt (Heap.lt_size q)
      exact ⟨by rw [upd_ne hbl]; exact f0, f1⟩
    have I2 : Inv X pins σ (upd H s.heap.objs.size (.tup [.int i, x])) { s with heap := h2, toks := tk + 1 } :=
      Inv.turnedL (s := { s with heap := h', toks := tk + 1 }) (t' := tk + 1) (ch := [e, it]) I1 (fun b o hb q => (hs2.2 b (fun z => hb (by simp [z]))).trans q) hfp1
    refine ⟨.ref s.heap.objs.size, _, I2, rfl, ⟨_, x, I.fresh, rfl, fun ys hy => by rw [I.list_inj hy hq]; exact hx, rfl⟩, ⟨⟨y, by simpa using he2⟩, hs'.1.extBut hs2.extBut (Ne.symm hei)⟩, fun b hb => (hfp1 b hb).1⟩
  done := by
    intro X hP hw hK hc i pins s σ H E I hf st hg
    subst hP hw hK
    obtain ⟨xs, hq, hx⟩ := hg
    obtain ⟨its, rv, p, hz⟩ := I.list hq
    obtain ⟨⟨old, he⟩, hli⟩ := st
    have hl := rv.length
    have hn : its.toArray.size = i := by simp; omega
    refine wpAny_pyNext_enum_endD (Draws.list (prog := X.prog) (w := X.w) (A := X.A.in1) (show X.A.in1.handled = none from I.ok.hd hc) it a hai its.toArray) he (by rw [hn]; exact ⟨hli, p.isList⟩) fun h' eb => ⟨rfl, I.turnedL (t' := s.toks) (ch := [e, it]) (fun b o hb q => eb b o (fun z => hb (by simp [z])) q) hf⟩
  self := fun _ _ _ _ _ st h => let ⟨old, z⟩ := st.1; wpAny_pyIter_enum z h
theorem turn_enumT {P : Program} {w : World} {K : PySem.W.Frag} {elts : List Expr} {kx : Nat} {tp : Pos} (a e it : Addr) (hei : e ≠ it) (hae : a ≠ e) (hai : a ≠ it) : Turn P w K (.Tuple elts kx tp) (IteT K a) [e, it] e (fun i h => (∃ old, IsEnum h e it i old) ∧ h.IsTupleIter it a i) where
  mem := by simp
  obj := fun i h st b hb => by
    rcases List.mem_cons.mp hb with rfl | hb
    · obtain ⟨⟨old, z⟩, _⟩ := st
      exact ⟨_, z, fun v q => by cases q⟩
    · have e' : b = it := by simpa using hb
      subst e'
      obtain ⟨o, q, c, d⟩ := st.2
      exact ⟨o, q, fun v z => by rw [d] at z; cases z⟩
  keep := fun i h h' st k => ⟨let ⟨old, z⟩ := st.1; ⟨old, k e (by simp) _ z⟩, st.2.at fun o q => k it (by simp) o q⟩
  item := by
    intro X hP hw hK hc i pins s σ H E I hf st hg
    subst hP hw hK
    obtain ⟨xs, x, hq, hx⟩ := hg
    obtain ⟨its, rv, p, hz⟩ := I.tuple hq
    obtain ⟨u, hu, ru⟩ := rv.get hx
    obtain ⟨⟨old, he⟩, hli⟩ := st
    have hil : i < its.toArray.size := by
      have := (List.getElem?_eq_some_iff.mp hu).1
      simpa using this
    refine wpAny_pyNext_enum_itemD (hue_draws_tuple (prog := X.prog) (w := X.w) (A := X.A.in1) (show X.A.in1.handled = none from I.ok.hd hc) it a hai its.toArray) he ⟨hli, p⟩ hil hei (by simp [hei, Ne.symm hae]) fun y h' tk hy ho hs' hT hsz hk => ?_
    have hyu : y = u := by
      have : its.toArray[i]? = some u := by simpa using hu
      rw [this] at hy; exact (Option.some.inj hy).symm
    subst hyu
    refine ⟨_, rfl, ?_⟩
    have I1 : Inv X pins σ (upd H s.heap.objs.size (.tup [.int i, x])) { s with heap := h', toks := tk + 1 } :=
      I.turnLay (ch := [e, it]) (fun b o hb q => hk b o (fun z => hb (by simp [z])) (fun z => hb (by simp [z])) q) hf ⟨two_le, [.int i tk, y], .cons ⟨tk, rfl⟩ (.cons ru .nil), ⟨_, hT, rfl, _, rfl⟩⟩
    refine wpAny_letOwnedTupleGo_enum ho fun h2 he2 hs2 => ?_
    have hfp1 : ∀ b ∈ [e, it], FpOk X pins (upd H s.heap.objs.size (.tup [.int i, x])) b := fun b hb => by
      obtain ⟨f0, f1⟩ := hf b hb
      have hbl : b ≠ s.heap.objs.size := by
        rcases List.mem_cons.mp hb with rfl | hb
        · exact Nat.ne_of_lt (Heap.lt_size he)
        · have e' : b = it := by simpa using hb
          subst e'
          obtain ⟨o, q, _⟩ := hli
          exact Nat.ne_of_lt (Heap.lt_size q)
      exact ⟨by rw [upd_ne hbl]; exact f0, f1⟩
    have I2 : Inv X pins σ (upd H s.heap.objs.size (.tup [.int i, x])) { s with heap := h2, toks := tk + 1 } :=
      Inv.turnedL (s := { s with heap := h', toks := tk + 1 }) (t' := tk + 1) (ch := [e, it]) I1 (fun b o hb q => (hs2.2 b (fun z => hb (by simp [z]))).trans q) hfp1
    refine ⟨.ref s.heap.objs.size, _, I2, rfl, ⟨_, x, I.fresh, rfl, fun ys hy => by rw [I.tuple_inj hy hq]; exact hx, rfl⟩, ⟨⟨y, by simpa using he2⟩, hs'.1.extBut hs2.extBut (Ne.symm hei)⟩, fun b hb => (hfp1 b hb).1⟩
  done := by
    intro X hP hw hK hc i pins s σ H E I hf st hg
    subst hP hw hK
    obtain ⟨xs, hq, hx⟩ := hg
    obtain ⟨its, rv, p, hz⟩ := I.tuple hq
    obtain ⟨⟨old, he⟩, hli⟩ := st
    have hl := rv.length
    have hn : its.toArray.size = i := by simp; omega
    refine wpAny_pyNext_enum_endD (hue_draws_tuple (prog := X.prog) (w := X.w) (A := X.A.in1) (show X.A.in1.handled = none from I.ok.hd hc) it a hai its.toArray) he (by rw [hn]; exact ⟨hli, p⟩) fun h' eb => ⟨rfl, I.turnedL (t' := s.toks) (ch := [e, it]) (fun b o hb q => eb b o (fun z => hb (by simp [z])) q) hf⟩
  self := fun _ _ _ _ _ st h => let ⟨old, z⟩ := st.1; wpAny_pyIter_enum z h
section
variable {X : Cx}
def iEnum (K : PySem.W.Frag) (ta : TA) : TI := fun σ H R => ta σ H fun vs H1 => ∃ a, vs = [.ref a] ∧ (((∃ xs, SqL K H1 a xs) ∧ R (IteL K a) H1) ∨ ((∃ xs, SqT K H1 a xs) ∧ R (IteT K a) H1))
theorem boot_enumerate : bootBuiltins "enumerate" = some (.type "enumerate") := by decide +kernel
theorem boot_zip : bootBuiltins "zip" = some (.type "zip") := by decide +kernel
theorem pi_enum {a : Expr} {ta : TA} {p pos : Pos} {elts : List Expr} {kx : Nat} {tp : Pos} (hg : Gl X "enumerate") (hm : X.mg "enumerate" = none) (ha : PA X [a] ta) (hs : starEach [a] X.env = [(false, eval a X.env)] := by rfl) :
    PI X (.Tuple elts kx tp) (.Call (.Name "enumerate" p) [a] [] pos) (iEnum X.K ta) := by
  intro pins s σ H R I h
  refine Call_ (ld_blt I hg hm boot_enumerate (PyProof.Rows.callWith_type1 (thn (ha pos pins s σ H _ I h) fun us s1 ⟨vs, H1, I1, r1, q1⟩ => ?_) hs rfl))
  obtain ⟨l, e, q1⟩ := q1
  subst e
  cases r1 with
  | cons r rr =>
    cases rr
    cases r
    rcases q1 with ⟨⟨xs, hq⟩, q⟩ | ⟨⟨xs, hq⟩, q⟩
    · obtain ⟨its, rv, pl, hz⟩ := I1.list hq
      have hlt : @LT.lt Nat _ l s1.heap.objs.size := by obtain ⟨o, n, e, _⟩ := pl; exact Heap.lt_size e
      refine call_enumerate_list pl.isList fun h' he hli hsz hk => ?_
      refine wpAny_pyIter_enum he ?_
      have I2 : Inv X pins σ H1 { s1 with heap := h' } := I1.kept (t' := s1.toks) hk
      refine ⟨s1.heap.objs.size + 1, [s1.heap.objs.size + 1, s1.heap.objs.size], _, _, H1, rfl, I2, turn_enumL l _ s1.heap.objs.size (show @Ne Nat _ _ by omega) (show @Ne Nat _ _ by omega) (show @Ne Nat _ _ by omega), ⟨⟨_, he⟩, hli⟩, fun b hb => ?_, q⟩
      have hb2 : @LE.le Nat _ s1.heap.objs.size b := by
        rcases List.mem_cons.mp hb with rfl | hb
        · exact Nat.le_succ _
        · have e : b = s1.heap.objs.size := by simpa using hb
          rw [e]; exact Nat.le_refl _
      exact I1.fpOk hb2 (I1.hok.fresh hb2)
    · obtain ⟨its, rv, pl, hz⟩ := I1.tuple hq
      have hlt : @LT.lt Nat _ l s1.heap.objs.size := by obtain ⟨o, e, _⟩ := pl; exact Heap.lt_size e
      refine hue_call_enumerate_tuple (show s1.heap.IsTuple l its.toArray from pl) fun h' he hli hsz hk => ?_
      refine wpAny_pyIter_enum he ?_
      have I2 : Inv X pins σ H1 { s1 with heap := h' } := I1.kept (t' := s1.toks) hk
      refine ⟨s1.heap.objs.size + 1, [s1.heap.objs.size + 1, s1.heap.objs.size], _, _, H1, rfl, I2, turn_enumT l _ s1.heap.objs.size (show @Ne Nat _ _ by omega) (show @Ne Nat _ _ by omega) (show @Ne Nat _ _ by omega), ⟨⟨_, he⟩, hli⟩, fun b hb => ?_, q⟩
      have hb2 : @LE.le Nat _ s1.heap.objs.size b := by
        rcases List.mem_cons.mp hb with rfl | hb
        · exact Nat.le_succ _
        · have e : b = s1.heap.objs.size := by simpa using hb
          rw [e]; exact Nat.le_refl _
      exact I1.fpOk hb2 (I1.hok.fresh hb2)
end
def Itz (K : PySem.W.Frag) (a b : Addr) : It :=
  ⟨fun i H => ∃ xs ys x y, SqL K H a xs ∧ SqL K H b ys ∧ xs[i]? = some x ∧ ys[i]? = some y,
   fun i H x H' => ∃ p v u, H p = none ∧ x = .ref p ∧ (∀ xs, SqL K H a xs → xs[i]? = some v) ∧ (∀ ys, SqL K H b ys → ys[i]? = some u) ∧ H' = upd H p (.tup [v, u]),
   fun i H => ∃ xs ys, SqL K H a xs ∧ SqL K H b ys ∧ (xs.length ≤ i ∨ ys.length ≤ i)⟩
theorem turn_zip {P : Program} {w : World} {K : PySem.W.Frag} {elts : List Expr} {kx : Nat} {tp : Pos} (z TI TO i1 i2 l1 l2 : Addr) (D : ZipApart z TI TO i1 i2 l1 l2) : Turn P w K (.Tuple elts kx tp) (Itz K l1 l2) [z, TI, TO, i1, i2] z
    (fun i h => IsZip h z TI TO .none ∧ IsPair h TI (.ref i1) (.ref i2) ∧ (∃ a b, IsPair h TO a b) ∧ h.IsListIter i1 l1 i ∧ h.IsListIter i2 l2 i) where
  mem := by simp
  obj := fun i h st b hb => by
    obtain ⟨hz, hTI, ⟨a', b', hTO⟩, ⟨o1, e1, c1, d1⟩, ⟨o2, e2, c2, d2⟩⟩ := st
    simp only [List.mem_cons, List.not_mem_nil, or_false] at hb
    rcases hb with rfl | rfl | rfl | rfl | rfl
    · exact ⟨_, hz, fun v q => by cases q⟩
    · exact ⟨_, hTI, fun v q => by cases q⟩
    · exact ⟨_, hTO, fun v q => by cases q⟩
    · exact ⟨o1, e1, fun v q => by rw [d1] at q; cases q⟩
    · exact ⟨o2, e2, fun v q => by rw [d2] at q; cases q⟩
  keep := fun i h h' st k => by
    obtain ⟨hz, hTI, ⟨a', b', hTO⟩, h1, h2⟩ := st
    exact ⟨k z (by simp) _ hz, k TI (by simp) _ hTI, ⟨a', b', k TO (by simp) _ hTO⟩, h1.at fun o q => k i1 (by simp) o q, h2.at fun o q => k i2 (by simp) o q⟩
  item := by
    intro X hP hw hK hc i pins s σ H E I hf st hg
    subst hP hw hK
    obtain ⟨xs, ys, x, y, hq1, hq2, hx, hy⟩ := hg
    obtain ⟨its1, rv1, p1, hz1⟩ := I.list hq1
    obtain ⟨its2, rv2, p2, hz2⟩ := I.list hq2
    obtain ⟨u1, hu1, ru1⟩ := rv1.get hx
    obtain ⟨u2, hu2, ru2⟩ := rv2.get hy
    obtain ⟨hz, hTI, ⟨a', b', hTO⟩, h1, h2⟩ := st
    refine wpAny_pyNext_zip_item D hz hTI hTO h1 h2 p1.isList p2.isList (x := u1) (y := u2) (by simpa using hu1) (by simpa using hu2) fun h' b1 b2 b3 b4 b5 b6 hk => ?_
    refine ⟨_, rfl, ?_⟩
    have I1 : Inv X pins σ (upd H s.heap.objs.size (.tup [x, y])) { s with heap := h' } :=
      I.turnLay (t' := s.toks) (ch := [z, TI, TO, i1, i2]) (fun b o hb q => hk b o (fun e => hb (by simp [e])) (fun e => hb (by simp [e])) (fun e => hb (by simp [e])) (fun e => hb (by simp [e])) q) hf ⟨two_le, [u1, u2], .cons ru1 (.cons ru2 .nil), ⟨_, b5, rfl, _, rfl⟩⟩
    have lt1 : i1 < s.heap.objs.size := by obtain ⟨_, q, _⟩ := h1; exact Heap.lt_size q
    have lt2 : i2 < s.heap.objs.size := by obtain ⟨_, q, _⟩ := h2; exact Heap.lt_size q
    have hfp1 : ∀ b ∈ [z, TI, TO, i1, i2], FpOk X pins (upd H s.heap.objs.size (.tup [x, y])) b := fun b hb => by
      obtain ⟨f0, f1⟩ := hf b hb
      have hbl : b ≠ s.heap.objs.size := by
        simp only [List.mem_cons, List.not_mem_nil, or_false] at hb
        rcases hb with rfl | rfl | rfl | rfl | rfl
        · exact Nat.ne_of_lt (Heap.lt_size hz)
        · exact Nat.ne_of_lt (Heap.lt_size hTI)
        · exact Nat.ne_of_lt (Heap.lt_size hTO)
        · exact Nat.ne_of_lt lt1
        · exact Nat.ne_of_lt lt2
      exact ⟨by rw [upd_ne hbl]; exact f0, f1⟩
    refine wpAny_letOwnedTupleGo_zip b1 fun h2' hz' hs' => ?_
    have I2 : Inv X pins σ (upd H s.heap.objs.size (.tup [x, y])) { s with heap := h2' } :=
      Inv.turnedL (s := { s with heap := h' }) (t' := s.toks) (ch := [z, TI, TO, i1, i2]) I1 (fun b o hb q => (hs'.2 b (fun e => hb (by simp [e]))).trans q) hfp1
    refine ⟨.ref s.heap.objs.size, _, I2, rfl, ⟨_, x, y, I.fresh, rfl, fun zs hy' => by rw [I.list_inj hy' hq1]; exact hx, fun zs hy' => by rw [I.list_inj hy' hq2]; exact hy, rfl⟩,
      ⟨hz', hs'.extBut _ _ D.TIz (hk _ _ D.TIz D.TITO D.TIi1 D.TIi2 hTI), ⟨_, _, hs'.extBut _ _ D.TOz b2⟩, b3.extBut hs'.extBut D.i1z, b4.extBut hs'.extBut D.i2z⟩, fun b hb => (hfp1 b hb).1⟩
  done := by
    intro X hP hw hK hc i pins s σ H E I hf st hg
    subst hP hw hK
    obtain ⟨xs, ys, hq1, hq2, hx⟩ := hg
    obtain ⟨its1, rv1, p1, hz1⟩ := I.list hq1
    obtain ⟨its2, rv2, p2, hz2⟩ := I.list hq2
    obtain ⟨hz, hTI, ⟨a', b', hTO⟩, h1, h2⟩ := st
    have hl1 := rv1.length
    have hl2 := rv2.length
    have hend : its1.toArray[i]? = none ∨ its2.toArray[i]? = none := by
      rcases hx with h | h
      · exact .inl (by simp; omega)
      · exact .inr (by simp; omega)
    exact wpAny_pyNext_zip_end (I.ok.hd hc) D hz hTI hTO h1 h2 p1.isList p2.isList hend fun h' hk => ⟨rfl, I.turnedL (t' := s.toks) (ch := [z, TI, TO, i1, i2]) (fun b o hb q => hk b o (fun e => hb (by simp [e])) (fun e => hb (by simp [e])) (fun e => hb (by simp [e])) (fun e => hb (by simp [e])) q) hf⟩
  self := fun _ _ _ _ _ st h => wpAny_pyIter_zip st.1 h
section
variable {X : Cx}
def iZip (K : PySem.W.Frag) (ta : TA) : TI := fun σ H R => ta σ H fun vs H1 => ∃ a b, vs = [.ref a, .ref b] ∧ (∃ xs, SqL K H1 a xs) ∧ (∃ ys, SqL K H1 b ys) ∧ R (Itz K a b) H1
theorem pi_zip {a b : Expr} {ta : TA} {p pos : Pos} {elts : List Expr} {kx : Nat} {tp : Pos} (hg : Gl X "zip") (hm : X.mg "zip" = none) (ha : PA X [a, b] ta) (hs : starEach [a, b] X.env = [(false, eval a X.env), (false, eval b X.env)] := by rfl)
    (hs2 : starEach [b] X.env = [(false, eval b X.env)] := by rfl) : PI X (.Tuple elts kx tp) (.Call (.Name "zip" p) [a, b] [] pos) (iZip X.K ta) := by
  intro pins s σ H R I h
  refine Call_ (ld_blt I hg hm boot_zip (PyProof.Rows.callWith_type1 (thn (ha pos pins s σ H _ I h) fun us s1 ⟨vs, H1, I1, r1, q1⟩ => ?_) (by rw [hs, hs2]) (by rw [hs2]; rfl)))
  obtain ⟨l1, l2, e, ⟨xs, hq1⟩, ⟨ys, hq2⟩, q⟩ := q1
  subst e
  obtain ⟨u1, u2, rfl, r1', r2'⟩ := Vals.two r1
  cases r1'
  cases r2'
  obtain ⟨its1, rv1, p1, hz1⟩ := I1.list hq1
  obtain ⟨its2, rv2, p2, hz2⟩ := I1.list hq2
  have hl1 : @LT.lt Nat _ l1 s1.heap.objs.size := by obtain ⟨o, n, e, _⟩ := p1; exact Heap.lt_size e
  have hl2 : @LT.lt Nat _ l2 s1.heap.objs.size := by obtain ⟨o, n, e, _⟩ := p2; exact Heap.lt_size e
  refine call_zip_2 p1.isList p2.isList fun h' c1 c2 c3 c4 c5 c6 hk => ?_
  refine wpAny_pyIter_zip c1 ?_
  have I2 : Inv X pins σ H1 { s1 with heap := h' } := I1.kept (t' := s1.toks) hk
  refine ⟨s1.heap.objs.size + 4, [s1.heap.objs.size + 4, s1.heap.objs.size + 2, s1.heap.objs.size + 3, s1.heap.objs.size, s1.heap.objs.size + 1], _, _, H1, rfl, I2, turn_zip _ _ _ _ _ l1 l2 ?_, ⟨c1, c2, ⟨_, _, c3⟩, c4, c5⟩, fun b hb => ?_, q⟩
  · constructor <;> (show @Ne Nat _ _) <;> omega
  · have hb2 : @LE.le Nat _ s1.heap.objs.size b := by
      simp only [List.mem_cons, List.not_mem_nil, or_false] at hb
      rcases hb with rfl | rfl | rfl | rfl | rfl
      · exact Nat.le_add_right _ _
      · exact Nat.le_add_right _ _
      · exact Nat.le_add_right _ _
      · exact Nat.le_refl _
      · exact Nat.le_add_right _ _
    exact I1.fpOk hb2 (I1.hok.fresh hb2)
end
theorem insert_eq (its : List Value) (k : Nat) (y : Value) : (its.toArray.extract 0 k).push y ++ its.toArray.extract k = (its.take k ++ y :: its.drop k).toArray := by
  apply Array.toList_inj.mp
  simp
  first
    | done
    | exact List.take_of_length_le (by simp)
section
variable {X : Cx}
def rInsert : V → List V → Hp → VK → Prop := fun x vs H Q => ∃ l xs i y, x = .ref l ∧ vs = [.int i, y] ∧ H l = some (.lst xs) ∧ 0 ≤ i ∧ i ≤ xs.length ∧ xs.length < sizeLine ∧ Q .non (upd H l (.lst (xs.take i.toNat ++ y :: xs.drop i.toNat)))
theorem mt_insert : MtM X "list.insert" rInsert := by
  intro pins s σ H x vs v us Q I rx rv h
  obtain ⟨l, xs, i, y, rfl, rfl, hH, h0, h1, hz, q⟩ := h
  cases rx
  obtain ⟨u1, u2, rfl, ⟨t, rfl⟩, ru⟩ := Vals.two rv
  obtain ⟨z, its, n, r, hl, e⟩ := I.lstM hH
  have hn := line63
  refine call_meets F.slot_list_insert ⟨_, e, rfl⟩ F.entry_list_insert (F.args_list_insert_3 _ _ _) (AutoSeq1.list_insert_list_int_val_1 l its.toArray n i t u2 (by rw [fitsIndex_both (by omega) (by omega)]; exact Bool.false_ne_true) (by rw [List.size_toArray]; omega)) ⟨e, ?_⟩
  refine ⟨.non, _, I.lset (its' := its.take i.toNat ++ u2 :: its.drop i.toNat) hH e ?_ (Vals.append (r.take _) (.cons ru (r.drop _))) ?_, rfl, q⟩
  · have hk : (if i < 0 then (i + (its.toArray.size : Int)).toNat else min i.toNat its.toArray.size) = i.toNat := by
      rw [if_neg (by omega), List.size_toArray]; omega
    show (let k := if i < 0 then (i + (its.toArray.size : Int)).toNat else min i.toNat its.toArray.size; (its.toArray.extract 0 k).push u2 ++ its.toArray.extract k) = _
    rw [hk]
    exact insert_eq its i.toNat u2
  · rw [List.length_append, List.length_take, List.length_cons, List.length_drop]
    omega
def eqVs (xs ys : List V) : Bool := xs.length == ys.length && (xs.zip ys).all fun p => eqV p.1 p.2
def rEqL (K : PySem.W.Frag) (neg : Bool) : R2 := fun x y H Q => ∃ a b xs ys, x = .ref a ∧ y = .ref b ∧ SqL K H a xs ∧ SqL K H b ys ∧ ((xs.all flatV = true ∧ ys.all flatV = true) ∨ xs = [] ∨ ys = []) ∧ Q (.bl (if neg then !eqVs xs ys else eqVs xs ys)) H
theorem eqVs_range {xs ys : List V} (hl : xs.length = ys.length) : (List.range xs.length).all (fun j => eqV (xs.getD j .non) (ys.getD j .non)) = eqVs xs ys := by
  have e1 : eqVs xs ys = (xs.zip ys).all fun p => eqV p.1 p.2 := by unfold eqVs; simp [hl]
  rw [e1, Bool.eq_iff_iff, List.all_eq_true, List.all_eq_true]
  constructor
  · intro h p hp
    obtain ⟨j, hj, e⟩ := List.mem_iff_getElem.mp hp
    have hj1 : j < xs.length := by simp at hj; omega
    have hj2 : j < ys.length := by omega
    have := h j (List.mem_range.mpr hj1)
    rw [← e]
    simpa [List.getD, hj1, hj2] using this
  · intro h j hj
    have hj1 : j < xs.length := List.mem_range.mp hj
    have hj2 : j < ys.length := by omega
    have := h (xs[j], ys[j]) (List.mem_iff_getElem.mpr ⟨j, by simp; omega, by simp⟩)
    simpa [List.getD, hj1, hj2] using this
theorem eqAt_lists {xs ys : List V} {us ws : List Value} {A : Around} {s : Shared} (r1 : Vals xs us) (r2 : Vals ys ws) (f : (xs.all flatV = true ∧ ys.all flatV = true) ∨ xs = [] ∨ ys = []) :
    ∀ j (h1 : j < us.toArray.size) (h2 : j < ws.toArray.size), SeqAt.EqAt A s us.toArray[j] ws.toArray[j] (eqV (xs.getD j .non) (ys.getD j .non)) := by
  intro j h1 h2
  have l1 := r1.length
  have l2 := r2.length
  simp only [List.size_toArray] at h1 h2
  have hj1 : j < xs.length := by omega
  have hj2 : j < ys.length := by omega
  obtain ⟨f1, f2⟩ : xs.all flatV = true ∧ ys.all flatV = true := by
    rcases f with f | f | f
    · exact f
    · subst f; simp at hj1
    · subst f; simp at hj2
  obtain ⟨u, eu, ru⟩ := r1.get (i := j) (x := xs[j]) (by simp [hj1])
  obtain ⟨w', ew, rw'⟩ := r2.get (i := j) (x := ys[j]) (by simp [hj2])
  have e1 : us.toArray[j] = u := by
    have := List.getElem?_eq_some_iff.mp eu
    obtain ⟨_, q⟩ := this
    simpa using q
  have e2 : ws.toArray[j] = w' := by
    obtain ⟨_, q⟩ := List.getElem?_eq_some_iff.mp ew
    simpa using q
  rw [e1, e2]
  have g1 : xs.getD j .non = xs[j] := by simp [List.getD, hj1]
  have g2 : ys.getD j .non = ys[j] := by simp [List.getD, hj2]
  rw [g1, g2]
  exact eqAt_V ru rw' (List.all_eq_true.mp f1 _ (List.getElem_mem hj1)) (List.all_eq_true.mp f2 _ (List.getElem_mem hj2))
theorem op_eqL (hu : X.A.units < cLine) : OpR X (compareOp .Eq) (rEqL X.K false) := by
  intro pins s σ H x y v u Q I rx ry h
  obtain ⟨a, b, xs, ys, rfl, rfl, h1, h2, f, q⟩ := h
  cases rx
  cases ry
  obtain ⟨its1, r1, p1, _⟩ := I.list h1
  obtain ⟨its2, r2, p2, _⟩ := I.list h2
  have l1 := r1.length
  have l2 := r2.length
  by_cases hl : xs.length = ys.length
  · refine SeqAt.eq_listAt p1.isList p2.isList (by simp; omega) hu (eqAt_lists r1 r2 f) ⟨.bl _, H, I, rfl, ?_⟩
    rw [List.size_toArray, ← l1, eqVs_range hl]
    exact q
  · refine SeqAt.eq_list_lengthsAt p1.isList p2.isList (by simp; omega) hu ⟨.bl false, H, I, rfl, ?_⟩
    have e : eqVs xs ys = false := by unfold eqVs; simp [hl]
    rw [show (if false = true then !eqVs xs ys else eqVs xs ys) = eqVs xs ys from rfl, e] at q
    exact q
theorem op_neL (hu : X.A.units < cLine) : OpR X (compareOp .NotEq) (rEqL X.K true) := by
  intro pins s σ H x y v u Q I rx ry h
  obtain ⟨a, b, xs, ys, rfl, rfl, h1, h2, f, q⟩ := h
  cases rx
  cases ry
  obtain ⟨its1, r1, p1, _⟩ := I.list h1
  obtain ⟨its2, r2, p2, _⟩ := I.list h2
  have l1 := r1.length
  have l2 := r2.length
  by_cases hl : xs.length = ys.length
  · refine (SeqAt.RcNeAt.lists p1.isList p2.isList (by simp; omega) hu (eqAt_lists r1 r2 f)) _ _ _ _ ?_
    refine ⟨.bl _, H, I, rfl, ?_⟩
    rw [List.size_toArray, ← l1, eqVs_range hl]
    exact q
  · refine (SeqAt.RcNeAt.lists_lengths p1.isList p2.isList (by simp; omega) hu) _ _ _ _ ?_
    refine ⟨.bl true, H, I, rfl, ?_⟩
    have e : eqVs xs ys = false := by unfold eqVs; simp [hl]
    rw [show (if true = true then !eqVs xs ys else eqVs xs ys) = !eqVs xs ys from rfl, e] at q
    exact q
theorem call_isi1 : CallR X (.builtin "isinstance") (fun xs H Q => ∃ x T t b, xs = [x, .ty T] ∧ TyOf X.K H x t ∧ PySem.W.kitOne X.K t (.type T) = some b ∧ Q (.bl b) H) := by
  intro pins s σ H xs us Q I r h
  obtain ⟨x, T, t, b, rfl, ty, e, q⟩ := h
  obtain ⟨u1, u2, rfl, r1, r2⟩ := Vals.two r
  cases r2
  exact isinst_ok I r1 ty e fun tk => ⟨.bl b, H, I.tok tk, rfl, q⟩
theorem isinstT_ok {pins : List (Addr × Obj)} {σ : St} {H : Hp} {s : Shared} {A : Around} {E : Value → Shared → Prop} {Q : Value → Shared → Prop} {b : Bool} {x : V} {u t : Value} {tp : Addr} {dd : Option Addr} {its : List Value} {n : Nat} {sl : Array (Option Value)} (I : Inv X pins σ H s) (rx : RelV x u) (ty : TyOf X.K H x t)
    (htp : s.heap.get? tp = some ⟨.type "tuple", dd, .seq its.toArray n, sl⟩) (e : PySem.W.kitAny X.K t its = some b) (h : ∀ tk, Q (.bool b) { s with toks := tk }) :
    wpAny (model X.prog X.w) A (call (.builtin "isinstance") [u, .ref tp]) Q E s := by
  cases ty with
  | non => cases (show u = Value.none from rx); exact PySem.W.kia_tup PySem.W.kitx_none I.kIn True.intro htp e (fun z => nomatch z) h
  | bl y => cases (show u = Value.bool y from rx); exact PySem.W.kia_tup PySem.W.kitx_bool I.kIn True.intro htp e (fun z => nomatch z) h
  | int i => obtain ⟨t, q⟩ := (show ∃ t, u = Value.int i t from rx); cases q; exact PySem.W.kia_tup PySem.W.kitx_int I.kIn True.intro htp e (fun z => nomatch z) h
  | str y => obtain ⟨t, q⟩ := (show ∃ t, u = Value.str y t from rx); cases q; exact PySem.W.kia_tup PySem.W.kitx_str I.kIn True.intro htp e (fun z => nomatch z) h
  | flt y => obtain ⟨t, q⟩ := (show ∃ t, u = Value.float y t from rx); cases q; exact PySem.W.kia_tup PySem.W.kitx_float I.kIn True.intro htp e (fun z => nomatch z) h
  | @lst a xs ea =>
    cases (show u = Value.ref a from rx)
    obtain ⟨_, _, n, _, h1⟩ := (show ObjOk X.prog X.w H s.heap a (.lst xs) from I.hok a _ ea)
    exact PySem.W.kia_tup PySem.W.kitx_list I.kIn ⟨_, h1, rfl⟩ htp e (fun z => nomatch z) h
  | @frz a ob xs ea =>
    cases (show u = Value.ref a from rx)
    obtain ⟨_, _, _, n, _, h1⟩ := (show ObjOk X.prog X.w H s.heap a (.frz ob (.lst xs)) from I.hok a _ ea)
    exact PySem.W.kia_tup PySem.W.kitx_list I.kIn ⟨_, h1, rfl⟩ htp e (fun z => nomatch z) h
  | @tup a xs ea =>
    cases (show u = Value.ref a from rx)
    obtain ⟨_, _, _, p⟩ := (show ObjOk X.prog X.w H s.heap a (.tup xs) from I.hok a _ ea)
    obtain ⟨o, h1, h2, _⟩ := p
    exact PySem.W.kia_tup PySem.W.kitx_tuple I.kIn ⟨o, h1, h2⟩ htp e (fun z => nomatch z) h
  | @dK a kvs ea =>
    cases (show u = Value.ref a from rx)
    obtain ⟨_, _, vs, _, p⟩ := (show ObjOk X.prog X.w H s.heap a (.dK kvs) from I.hok a _ ea)
    obtain ⟨o, es, ep, h1, h2, _⟩ := p
    exact PySem.W.kia_tup PySem.W.kitx_dict I.kIn ⟨o, h1, h2.1⟩ htp e (fun z => nomatch z) h
  | @dT a kvs ea =>
    cases (show u = Value.ref a from rx)
    obtain ⟨_, _, xs, _, o, es, ep, h1, h2, _⟩ := (show ObjOk X.prog X.w H s.heap a (.dT kvs) from I.hok a _ ea)
    exact PySem.W.kia_tup PySem.W.kitx_dict I.kIn ⟨o, h1, h2.1⟩ htp e (fun z => nomatch z) h
  | @ins a C dx fs ea cl ha hn htk hm =>
    cases (show u = Value.ref a from rx)
    obtain ⟨mA, O, _⟩ := ins_get I.hok ea
    obtain ⟨od, J, _⟩ := O.look
    exact PySem.W.kia_tup (PySem.W.kitx_own (cl.get _) cl.hd ha hn htk hm) I.kIn J htp e (fun z => nomatch z) h
theorem vals_ty : ∀ (Ts : List String) {us : List Value}, Vals (Ts.map V.ty) us → us = Ts.map Value.type
  | [], _, .nil => rfl
  | T :: r, _, .cons h t => by cases h; rw [vals_ty r t]; rfl
theorem call_isiT : CallR X (.builtin "isinstance") (fun xs H Q => ∃ (x : V) (p : Addr) (Ts : List String) (t : Value) (b : Bool), xs = [x, .ref p] ∧ H p = some (.tup (Ts.map V.ty)) ∧ TyOf X.K H x t ∧ PySem.W.kitAny X.K t (Ts.map Value.type) = some b ∧ Q (.bl b) H) := by
  intro pins s σ H xs us Q I r h
  obtain ⟨x, p, Ts, t, b, rfl, hp, ty, e, q⟩ := h
  obtain ⟨u1, u2, rfl, r1, r2⟩ := Vals.two r
  cases r2
  obtain ⟨_, its, rv, ⟨⟨c, dd, dt, sl⟩, h1, h2, n, h3⟩⟩ := (show ObjOk X.prog X.w H s.heap p (.tup (Ts.map V.ty)) from I.hok p _ hp)
  have ei := vals_ty Ts rv
  subst ei
  replace h2 : c = .type "tuple" := h2
  replace h3 : dt = .seq (Ts.map Value.type).toArray n := h3
  subst h2 h3
  exact isinstT_ok I r1 ty h1 e fun tk => ⟨.bl b, H, I.tok tk, rfl, q⟩
theorem call_allB (hc : X.calm = true) : CallR X (.builtin "all") (fun xs H Q => ∃ (a : Addr) (bs : List Bool), xs = [.ref a] ∧ SqL X.K H a (bs.map V.bl) ∧ Q (.bl (bs.all id)) H) := by
  intro pins s σ H xs us Q I r h
  obtain ⟨a, bs, rfl, hq, q⟩ := h
  obtain ⟨u, rfl, ru⟩ := vals1 r
  cases ru
  obtain ⟨its, rv, pl, hz⟩ := I.list hq
  have hl := rv.length
  rw [List.length_map] at hl
  refine call_all_walk (wpAny_pyIter_list pl.isList ?_)
  have hlt : a < s.heap.objs.size := by obtain ⟨o, n, e, _⟩ := pl; exact Heap.lt_size e
  refine ⟨s.heap.objs.size, _, _, _, _, _, fun i => bs.getD i false, rfl, Walks.list (by exact I.ok.hd hc) s.heap.objs.size a (Nat.ne_of_lt hlt) its.toArray, ⟨⟨_, Heap.get?_push_size _ rfl, rfl, rfl⟩, pl.isList.push _⟩, ?_, fun h' tk hk => ?_⟩
  · intro i v s' Q' E' hv hQ'
    have hv' : its[i]? = some v := by simpa using hv
    have hi : i < its.length := (List.getElem?_eq_some_iff.mp hv').1
    have hb : (bs.map V.bl)[i]? = some (.bl (bs[i]'(by omega))) := by simp
    obtain ⟨u', eu, ru'⟩ := rv.get hb
    rw [hv'] at eu
    cases eu
    cases ru'
    have hg : bs.getD i false = bs[i]'(by omega) := by simp [List.getD, show i < bs.length by omega]
    have hQ2 : Q' (bs.getD i false) s' := hQ'
    rw [hg] at hQ2
    exact wpAny_truthy_bool hQ2
  · have I1 : Inv X pins σ H { s with heap := h', toks := tk } := I.kept fun b o e => hk b o (by simp; exact Nat.ne_of_lt (Heap.lt_size e)) (Heap.get?_push_of_some _ e)
    refine ⟨.bl _, H, I1, rfl, ?_⟩
    have e : (List.range its.toArray.size).all (fun i => bs.getD i false) = bs.all id := by
      rw [List.size_toArray, ← hl, Bool.eq_iff_iff, List.all_eq_true, List.all_eq_true]
      constructor
      · intro h b hb
        obtain ⟨j, hj, e⟩ := List.mem_iff_getElem.mp hb
        have := h j (List.mem_range.mpr hj)
        simpa [List.getD, hj, e] using this
      · intro h j hj
        have hj1 : j < bs.length := List.mem_range.mp hj
        have := h bs[j] (List.getElem_mem hj1)
        simpa [List.getD, hj1] using this
    rw [e]
    exact q
theorem call_rng2 : CallR X (.type "range") (fun xs H Q => ∃ a b, xs = [.int a, .int b] ∧ ∀ p, H p = none → Q (.ref p) (upd H p (.rng a b))) := by
  intro pins s σ H xs us Q I r h
  obtain ⟨a, b, rfl, q⟩ := h
  obtain ⟨u1, u2, rfl, ⟨t, rfl⟩, ⟨t', rfl⟩⟩ := Vals.two r
  refine call_range_2 ⟨.ref s.heap.objs.size, _, I.laid (o := .rng a b) (fun b o e => Heap.get?_push_of_some _ e) (Nat.le_refl _) ⟨_, _, _, Heap.get?_push_size _ rfl⟩, rfl, q _ I.fresh⟩
def rngV (lo : Int) (n : Nat) : List V := (List.range n).map fun (i : Nat) => V.int (lo + (i : Int))
theorem rngV_length (lo : Int) (n : Nat) : (rngV lo n).length = n := by unfold rngV; simp
theorem call_listRng (hc : X.calm = true) : CallR X (.type "list") (fun xs H Q => ∃ p a b, xs = [.ref p] ∧ H p = some (.rng a b) ∧ -(2 ^ 62) ≤ a ∧ a < 2 ^ 62 ∧ -(2 ^ 62) ≤ b ∧ b < 2 ^ 62 ∧ (b - a).toNat ≤ 100000 ∧ ∀ l, H l = none → Q (.ref l) (upd H l (.lst (rngV a (b - a).toNat)))) := by
  intro pins s σ H xs us Q I r h
  obtain ⟨p, a, b, rfl, hp, h1, h2, h3, h4, h5, q⟩ := h
  obtain ⟨u, rfl, ru⟩ := vals1 r
  cases ru
  obtain ⟨t, u', v, ho⟩ := (show ObjOk X.prog X.w H s.heap p (.rng a b) from I.hok p _ hp)
  have hn : Builtin.Range.rangeSize a b 1 = (((b - a).toNat : Nat) : Int) := by rw [rangeSize_one]; split <;> omega
  refine call_list_range (I.ok.hd hc) (show IsRange s.heap p a b 1 t u' v from ho) (small_one h1 h2 h3 h4) hn (by omega) fun h' tk acc c' kp e hi => ?_
  have hz : (b - a).toNat ≤ sizeLine := Nat.le_trans h5 (by decide)
  refine ⟨.ref s.heap.objs.size, _, I.laid kp (Nat.le_refl _) (show ObjOk X.prog X.w _ h' _ (.lst (rngV a (b - a).toNat)) from ⟨by rw [rngV_length]; exact hz, acc.toList, c', ?_, by simpa using e⟩), rfl, q _ I.fresh⟩
  obtain ⟨hs, hv⟩ := hi
  have key : ∀ (n : Nat) (l : List Value) (lo : Int), l.length = n → (∀ (j : Nat) (v : Value), l[j]? = some v → ∃ t, v = Value.int (lo + (j : Int)) t) → Vals ((List.range n).map fun (i : Nat) => V.int (lo + (i : Int))) l := by
    intro n
    induction n with
    | zero => intro l lo hl _; cases l with | nil => exact .nil | cons _ _ => simp at hl
    | succ n ih =>
      intro l lo hl hv
      cases l with
      | nil => simp at hl
      | cons x r =>
        rw [List.range_succ_eq_map, List.map_cons, List.map_map]
        refine .cons ?_ ?_
        · obtain ⟨t, e⟩ := hv 0 x (by simp)
          exact ⟨t, e⟩
        · have := ih r (lo + 1) (by simpa using hl) fun j v hj => by
            obtain ⟨t, e⟩ := hv (j + 1) v (by simpa using hj)
            refine ⟨t, ?_⟩
            rw [e]
            congr 1
            omega
          have e2 : ((fun (i : Nat) => V.int (lo + (i : Int))) ∘ Nat.succ) = fun (i : Nat) => V.int (lo + 1 + (i : Int)) := by
            funext i
            show V.int (lo + ((i + 1 : Nat) : Int)) = V.int (lo + 1 + (i : Int))
            congr 1
            omega
          rw [e2]
          exact this
  refine key _ _ a (by simpa using hs) fun j v hj => ?_
  obtain ⟨t, e⟩ := hv j v (by simpa using hj)
  exact ⟨t, by rw [e]; congr 1; omega⟩
end
theorem comp_enumL {K : PySem.W.Frag} {a : Addr} {xs : List V} {g : TG} {tt : TT} {te : TE} {D : Addr} {σ' : St} {Q : List V → Hp → Prop} {H1 : Hp} (Pv : Nat → List V → Hp → Prop) (h0 : Pv 0 [] (upd H1 D (.lst []))) (hl : ∀ i ys H, i ≤ xs.length → Pv i ys H → SqL K H a xs)
    (hs : ∀ i x ys H p, xs[i]? = some x → Pv i ys H → H p = none → CompTurn g tt te D σ' ys (Pv (i + 1)) (.ref p) (upd H p (.tup [.int i, x]))) (hd : ∀ ys H, Pv xs.length ys H → Q ys H) :
    ∃ W : Nat → Nat → List V → Hp → Prop, (∃ m, W 0 m [] (upd H1 D (.lst []))) ∧ CompW (IteL K a) g tt te D σ' Q W := by
  refine ⟨fun i m ys H => m = xs.length - i ∧ i ≤ xs.length ∧ Pv i ys H, ⟨xs.length, by simp, Nat.zero_le _, h0⟩, ?_⟩
  rintro i m ys H ⟨rfl, hi, p⟩
  have q := hl i ys H hi p
  by_cases hlt : i < xs.length
  · refine .inr ⟨⟨xs, xs[i], q, by simp [hlt]⟩, Pv (i + 1), fun ys' H' p' => ⟨xs.length - (i + 1), by omega, rfl, hlt, p'⟩, fun x H' y => ?_⟩
    obtain ⟨pp, v, hp, e1, hv, e2⟩ := y
    subst e1 e2
    exact hs i v ys _ pp (hv xs q) p hp
  · have e : i = xs.length := by omega
    subst e
    exact .inl ⟨⟨xs, q, rfl⟩, hd ys H p⟩
theorem comp_enumT {K : PySem.W.Frag} {a : Addr} {xs : List V} {g : TG} {tt : TT} {te : TE} {D : Addr} {σ' : St} {Q : List V → Hp → Prop} {H1 : Hp} (Pv : Nat → List V → Hp → Prop) (h0 : Pv 0 [] (upd H1 D (.lst []))) (hl : ∀ i ys H, i ≤ xs.length → Pv i ys H → SqT K H a xs)
    (hs : ∀ i x ys H p, xs[i]? = some x → Pv i ys H → H p = none → CompTurn g tt te D σ' ys (Pv (i + 1)) (.ref p) (upd H p (.tup [.int i, x]))) (hd : ∀ ys H, Pv xs.length ys H → Q ys H) :
    ∃ W : Nat → Nat → List V → Hp → Prop, (∃ m, W 0 m [] (upd H1 D (.lst []))) ∧ CompW (IteT K a) g tt te D σ' Q W := by
  refine ⟨fun i m ys H => m = xs.length - i ∧ i ≤ xs.length ∧ Pv i ys H, ⟨xs.length, by simp, Nat.zero_le _, h0⟩, ?_⟩
  rintro i m ys H ⟨rfl, hi, p⟩
  have q := hl i ys H hi p
  by_cases hlt : i < xs.length
  · refine .inr ⟨⟨xs, xs[i], q, by simp [hlt]⟩, Pv (i + 1), fun ys' H' p' => ⟨xs.length - (i + 1), by omega, rfl, hlt, p'⟩, fun x H' y => ?_⟩
    obtain ⟨pp, v, hp, e1, hv, e2⟩ := y
    subst e1 e2
    exact hs i v ys _ pp (hv xs q) p hp
  · have e : i = xs.length := by omega
    subst e
    exact .inl ⟨⟨xs, q, rfl⟩, hd ys H p⟩
theorem for_enumL {K : PySem.W.Frag} {a : Addr} {xs : List V} {g : TG} {tb : TS} {D : Ends} {σ : St} {H : Hp} (Pv : Nat → St → Hp → Prop) (h0 : Pv 0 σ H) (hl : ∀ i σ H, i ≤ xs.length → Pv i σ H → SqL K H a xs)
    (hs : ∀ i x σ H p, xs[i]? = some x → Pv i σ H → H p = none → g (.ref p) σ (upd H p (.tup [.int i, x])) fun σ2 H2 => tb { D with nx := Pv (i + 1), ct := Pv (i + 1), bk := D.nx } σ2 H2) (hd : ∀ σ H, Pv xs.length σ H → D.nx σ H) :
    ∃ W : Nat → Nat → St → Hp → Prop, (∃ m, W 0 m σ H) ∧ ∀ i m σ H, W i m σ H →
      ((IteL K a).stop i H ∧ D.nx σ H) ∨ ((IteL K a).go i H ∧ ∃ N : St → Hp → Prop, (∀ σ' H', N σ' H' → ∃ m', m' < m ∧ W (i + 1) m' σ' H') ∧ ∀ x H', (IteL K a).yld i H x H' → g x σ H' fun σ2 H2 => tb { D with nx := N, ct := N, bk := D.nx } σ2 H2) := by
  refine ⟨fun i m σ H => m = xs.length - i ∧ i ≤ xs.length ∧ Pv i σ H, ⟨xs.length, by simp, Nat.zero_le _, h0⟩, ?_⟩
  rintro i m σ H ⟨rfl, hi, p⟩
  have q := hl i σ H hi p
  by_cases hlt : i < xs.length
  · refine .inr ⟨⟨xs, xs[i], q, by simp [hlt]⟩, Pv (i + 1), fun σ' H' p' => ⟨xs.length - (i + 1), by omega, rfl, hlt, p'⟩, fun x H' y => ?_⟩
    obtain ⟨pp, v, hp, e1, hv, e2⟩ := y
    subst e1 e2
    exact hs i v σ _ pp (hv xs q) p hp
  · have e : i = xs.length := by omega
    subst e
    exact .inl ⟨⟨xs, q, rfl⟩, hd σ H p⟩
theorem comp_zip {K : PySem.W.Frag} {a b : Addr} {xs zs : List V} {g : TG} {tt : TT} {te : TE} {D : Addr} {σ' : St} {Q : List V → Hp → Prop} {H1 : Hp} (hlen : xs.length = zs.length) (Pv : Nat → List V → Hp → Prop) (h0 : Pv 0 [] (upd H1 D (.lst [])))
    (hl : ∀ i ys H, i ≤ xs.length → Pv i ys H → SqL K H a xs ∧ SqL K H b zs)
    (hs : ∀ i x z ys H p, xs[i]? = some x → zs[i]? = some z → Pv i ys H → H p = none → CompTurn g tt te D σ' ys (Pv (i + 1)) (.ref p) (upd H p (.tup [x, z]))) (hd : ∀ ys H, Pv xs.length ys H → Q ys H) :
    ∃ W : Nat → Nat → List V → Hp → Prop, (∃ m, W 0 m [] (upd H1 D (.lst []))) ∧ CompW (Itz K a b) g tt te D σ' Q W := by
  refine ⟨fun i m ys H => m = xs.length - i ∧ i ≤ xs.length ∧ Pv i ys H, ⟨xs.length, by simp, Nat.zero_le _, h0⟩, ?_⟩
  rintro i m ys H ⟨rfl, hi, p⟩
  obtain ⟨q1, q2⟩ := hl i ys H hi p
  by_cases hlt : i < xs.length
  · refine .inr ⟨⟨xs, zs, xs[i], zs[i]'(by omega), q1, q2, by simp [hlt], by simp⟩, Pv (i + 1), fun ys' H' p' => ⟨xs.length - (i + 1), by omega, rfl, hlt, p'⟩, fun x H' y => ?_⟩
    obtain ⟨pp, v, u, hp, e1, hv, hu, e2⟩ := y
    subst e1 e2
    exact hs i v u ys _ pp (hv xs q1) (hu zs q2) p hp
  · have e : i = xs.length := by omega
    subst e
    exact .inl ⟨⟨xs, zs, q1, q2, .inl (Nat.le_refl _)⟩, hd ys H p⟩
end L2
set_option Elab.async false
set_option linter.all false
set_option maxRecDepth 100000
set_option maxHeartbeats 4000000
namespace L2
open PySem PySem.Spec PyProof.Rows
theorem vals_intsAre : ∀ {ns : List Int} {us : List Value}, Vals (ns.map V.int) us → IntsAre us ns
  | [], _, .nil => .nil
  | _ :: _, _, .cons ⟨_, e⟩ t => by subst e; exact .cons _ _ (vals_intsAre t)
section
variable {X : Cx}
end
end L2
set_option Elab.async false
set_option linter.all false
set_option maxRecDepth 100000
set_option maxHeartbeats 4000000
namespace L2
open PySem PySem.Spec PyProof.Rows
theorem eraseIdx_mapI : ∀ (ls : List Int) (k : Nat), (ls.map V.int).eraseIdx k = (ls.eraseIdx k).map V.int
  | [], k => by simp
  | x :: ls, 0 => by simp
  | x :: ls, k + 1 => by simp [eraseIdx_mapI ls k]
theorem comp_zip2 {K : PySem.W.Frag} {a b : Addr} {xs zs : List V} {g : TG} {tt : TT} {te : TE} {D : Addr} {σ' : St} {Q : List V → Hp → Prop} {H1 : Hp} (hlen : zs.length ≤ xs.length) (Pv : Nat → List V → Hp → Prop) (h0 : Pv 0 [] (upd H1 D (.lst [])))
    (hl : ∀ i ys H, i ≤ zs.length → Pv i ys H → SqL K H a xs ∧ SqL K H b zs)
    (hs : ∀ i x z ys H p, xs[i]? = some x → zs[i]? = some z → Pv i ys H → H p = none → CompTurn g tt te D σ' ys (Pv (i + 1)) (.ref p) (upd H p (.tup [x, z]))) (hd : ∀ ys H, Pv zs.length ys H → Q ys H) :
    ∃ W : Nat → Nat → List V → Hp → Prop, (∃ m, W 0 m [] (upd H1 D (.lst []))) ∧ CompW (Itz K a b) g tt te D σ' Q W := by
  refine ⟨fun i m ys H => m = zs.length - i ∧ i ≤ zs.length ∧ Pv i ys H, ⟨zs.length, by simp, Nat.zero_le _, h0⟩, ?_⟩
  rintro i m ys H ⟨rfl, hi, p⟩
  obtain ⟨q1, q2⟩ := hl i ys H hi p
  by_cases hlt : i < zs.length
  · refine .inr ⟨⟨xs, zs, xs[i]'(by omega), zs[i], q1, q2, by simp, by simp [hlt]⟩, Pv (i + 1), fun ys' H' p' => ⟨zs.length - (i + 1), by omega, rfl, hlt, p'⟩, fun x H' y => ?_⟩
    obtain ⟨pp, v, u, hp, e1, hv, hu, e2⟩ := y
    subst e1 e2
    exact hs i v u ys _ pp (hv xs q1) (hu zs q2) p hp
  · have e : i = zs.length := by omega
    subst e
    exact .inl ⟨⟨xs, zs, q1, q2, .inr (Nat.le_refl _)⟩, hd ys H p⟩
section
variable {X : Cx}
theorem vals_refs : ∀ {xs : List V} {us us' : List Value}, (∀ v ∈ xs, ∃ p, v = V.ref p) → Vals xs us → Vals xs us' → us = us'
  | [], _, _, _, .nil, .nil => rfl
  | _ :: _, _, _, f, .cons r1 t1, .cons r2 t2 => by
    obtain ⟨p, rfl⟩ := f _ (List.mem_cons_self ..)
    cases r1
    cases r2
    rw [vals_refs (fun v hv => f v (List.mem_cons_of_mem _ hv)) t1 t2]
theorem op_neSame (hu : X.A.units < cLine) : OpR X (compareOp .NotEq) (fun x y H Q => ∃ a b xs, x = .ref a ∧ y = .ref b ∧ SqL X.K H a xs ∧ SqL X.K H b xs ∧ (∀ v ∈ xs, ∃ p, v = V.ref p) ∧ Q (.bl false) H) := by
  intro pins s σ H x y v u Q I rx ry h
  obtain ⟨a, b, xs, rfl, rfl, h1, h2, f, q⟩ := h
  cases rx
  cases ry
  obtain ⟨its1, r1, p1, _⟩ := I.list h1
  obtain ⟨its2, r2, p2, _⟩ := I.list h2
  have e := vals_refs f r1 r2
  subst e
  refine (SeqAt.RcNeAt.lists (e := fun _ => true) p1.isList p2.isList rfl hu (fun j h1 h2 => SeqAt.EqAt.same _)) _ _ _ _ ?_
  refine ⟨.bl _, H, I, rfl, ?_⟩
  have : ((List.range its1.toArray.size).all fun _ => true) = true := by simp
  rw [this]
  exact q
theorem b_sum : bootBuiltins "sum" = some (.builtin "sum") := by decide +kernel
section
variable {X : Cx}
theorem call_sum2 (hc : X.calm = true) : CallR X (.builtin "sum") (fun xs H Q => ∃ (p : Addr) (a b : Int), xs = [.ref p] ∧ SqT X.K H p [.int a, .int b] ∧ Q (.int (a + b)) H) := by
  intro pins s σ H xs us Q I r h
  obtain ⟨p, a, b, rfl, hq, q⟩ := h
  obtain ⟨u, rfl, ru⟩ := vals1 r
  cases ru
  obtain ⟨its, rv, pt, hz⟩ := I.tuple hq
  have hI := vals_intsAre (ns := [a, b]) rv
  have hl := rv.length
  have hlt : p < s.heap.objs.size := by obtain ⟨o, e, _⟩ := pt; exact Heap.lt_size e
  have hpt : s.heap.IsTuple p its.toArray := pt
  refine call_sum_walkG (wpAny_pyIter_tuple hpt ?_)
  refine ⟨s.heap.objs.size, _, _, _, _, _, fun i => [a, b].getD i 0, rfl, Walks.tuple (by exact I.ok.hd hc) s.heap.objs.size p (Nat.ne_of_lt hlt) its.toArray, ⟨⟨_, Heap.get?_push_size _ rfl, rfl, rfl⟩, hpt.at fun o e => Heap.get?_push_of_some _ e⟩, ?_, ?_, ?_⟩
  · intro b hb
    rw [Heap.size_push]
    rcases List.mem_cons.mp hb with z | z
    · rw [z]; exact Nat.lt_succ_self _
    · rw [List.mem_singleton.mp z]; exact Nat.lt_succ_of_lt hlt
  · intro i v hv
    exact IntsAre.int_at hI i v (by simpa using hv)
  · intro h' tk t' hk
    have I1 : Inv X pins σ H { s with heap := h', toks := tk } := I.kept fun b o e => hk b o (by simp; exact Nat.ne_of_lt (Heap.lt_size e)) (Heap.get?_push_of_some _ e)
    refine ⟨.int (a + b), H, I1, ⟨t', ?_⟩, q⟩
    have e : its.toArray.size = 2 := by rw [List.size_toArray, ← hl]; rfl
    rw [e]
    show Value.int (0 + a + b) t' = _
    rw [Int.zero_add]
def rRemove : V → List V → Hp → VK → Prop := fun x vs H Q => ∃ (l : Addr) (ns : List Int) (n : Int) (j : Nat), x = .ref l ∧ vs = [.int n] ∧ H l = some (.lst (ns.map V.int)) ∧ ns[j]? = some n ∧ (∀ m, m < j → ns[m]? ≠ some n) ∧ Q .non (upd H l (.lst ((ns.eraseIdx j).map V.int)))
theorem mt_remove : MtM X "list.remove" rRemove := by
  intro pins s σ H x vs v us Q I rx rv h
  obtain ⟨l, ns, n, j, rfl, rfl, hH, hj, hno, q⟩ := h
  cases rx
  obtain ⟨u, rfl, ru⟩ := rv.one
  obtain ⟨z, its, k, r, hl, e⟩ := I.lstM hH
  have hlen := hl
  rw [List.length_map] at hlen z
  have hjl : j < ns.length := (List.getElem?_eq_some_iff.mp hj).1
  have hjs : j < its.toArray.size := by rw [List.size_toArray]; omega
  have fl : (ns.map V.int).all flatV = true := List.all_eq_true.mpr fun v hv => by
    obtain ⟨n, _, rfl⟩ := List.mem_map.mp hv
    rfl
  have at' : ∀ m (hm : m < its.toArray.size), eqU (.int n) its.toArray[m] = (ns[m]'(by rw [List.size_toArray] at hm; omega) == n) := fun m hm => by
    have hm' : m < ns.length := by rw [List.size_toArray] at hm; omega
    obtain ⟨u', hu', ru'⟩ := r.get (show (ns.map V.int)[m]? = some (V.int ns[m]) by simp [hm'])
    have e2 : its.toArray[m] = u' := by
      have : its[m]? = some its.toArray[m] := by simp
      rw [hu'] at this
      exact (Option.some.inj this).symm
    rw [e2, eqU_of ru' rfl]
    rfl
  refine call_meets F.slot_list_remove ⟨_, e, rfl⟩ F.entry_list_remove (F.args_list_remove_2 _ _)
    (MeetsSeq.list_remove l its.toArray k u (eqU (.int n)) ?_ j hjs ?_ ?_ (by rw [List.size_toArray]; omega)) ⟨e, ?_⟩
  · intro y hy
    obtain ⟨m, hm, rfl⟩ := Array.mem_iff_getElem.mp hy
    have hm' : m < ns.length := by rw [List.size_toArray] at hm; omega
    obtain ⟨u', hu', ru'⟩ := r.get (show (ns.map V.int)[m]? = some (V.int ns[m]) by simp [hm'])
    have e2 : its.toArray[m] = u' := by
      have : its[m]? = some its.toArray[m] := by simp
      rw [hu'] at this
      exact (Option.some.inj this).symm
    rw [e2, eqU_of ru' rfl]
    obtain ⟨t1, rfl⟩ := ru'
    obtain ⟨t2, rfl⟩ := ru
    exact MeetsSeq.EqGives.int _ _ _ _
  · rw [at' j hjs]
    have := (List.getElem?_eq_some_iff.mp hj).2
    simp [this]
  · intro m hm hmj
    rw [at' m hm]
    have hm' : m < ns.length := by rw [List.size_toArray] at hm; omega
    have := hno m hmj
    simpa [hm'] using this
  · refine ⟨.non, _, I.lset (its' := its.eraseIdx j) hH e ?_ (?_ : Vals ((ns.eraseIdx j).map V.int) (its.eraseIdx j)) ?_, rfl, q⟩
    · show its.toArray.eraseIdxIfInBounds j = (its.eraseIdx j).toArray
      rw [List.eraseIdxIfInBounds_toArray]
    · rw [← eraseIdx_mapI]; exact r.eraseIdx j
    · rw [List.length_map]
      have := len_erase ns j
      omega
end
end
end L2
set_option Elab.async false
set_option linter.all false
set_option maxRecDepth 100000
set_option maxHeartbeats 4000000
namespace PySem
structure ZipFar (z TI TO i1 i2 : Addr) (f1 f2 : List Addr) : Prop where
  iz : TI ≠ z ∧ TO ≠ z ∧ i1 ≠ z ∧ i2 ≠ z
  im : TI ≠ TO ∧ TI ≠ i1 ∧ TI ≠ i2 ∧ TO ≠ i1 ∧ TO ≠ i2 ∧ i1 ≠ i2
  g1 : ∀ c ∈ f1, c ≠ z ∧ c ≠ TO ∧ c ≠ i2
  g2 : ∀ c ∈ f2, c ≠ z ∧ c ≠ TO ∧ c ≠ i1
section
variable {prog : Program} {w : World} {A : Around} {E : Value → Shared → Prop} {s : Shared}
theorem hue_zip_item {z TI TO i1 i2 : Addr} {f1 f2 : List Addr} {n1 n2 k : Nat} {P1 P2 : Nat → Value → Prop} {S1 S2 : Nat → Heap → Prop} {Q : Value → Shared → Prop}
    (W1 : Draws prog w A i1 f1 n1 P1 S1) (W2 : Draws prog w A i2 f2 n2 P2 S2) (Fa : ZipFar z TI TO i1 i2 f1 f2) (hz : IsZip s.heap z TI TO .none) (hI : IsPair s.heap TI (.ref i1) (.ref i2)) (hO : ∃ a b, IsPair s.heap TO a b)
    (t1 : S1 k s.heap) (t2 : S2 k s.heap) (l1 : k < n1) (l2 : k < n2)
    (hQ : ∀ x y h' tk, P1 k x → P2 k y → IsZip h' z TI TO (rawInt s.heap.objs.size) → (∃ a b, IsPair h' TO a b) → S1 (k + 1) h' → S2 (k + 1) h' → IsPair h' s.heap.objs.size x y → h'.objs.size = s.heap.objs.size + 1 →
      (∀ c o, c ≠ z → c ≠ TO → c ≠ i1 → c ≠ i2 → s.heap.get? c = some o → h'.get? c = some o) → Q (.ref s.heap.objs.size) { s with heap := h', toks := tk }) :
    wpAny (model prog w) A (Builtin.«zip.__next__» ⟨[.ref z], []⟩) (fun fin s' => ∃ v, fin = .done (.ret v) ∧ Q v s') E s := by
  obtain ⟨a, b, hO⟩ := hO
  obtain ⟨z1, z2, z3, z4⟩ := Fa.iz
  obtain ⟨m1, m2, m3, m4, m5, m6⟩ := Fa.im
  have get2 : ∀ {R : Value → Shared → Prop}, R (.bool false) s → wpAny (model prog w) A (field (.ref z) 2) R E s := fun q => wpAny_field hz rfl (x := .bool false) rfl q
  show wpAny _ _ (field (.ref z) 2 >>= _) _ _ _
  refine wpAny_bind (get2 ?_)
  show wpAny _ _ (field (.ref z) 3 >>= _) _ _ _
  refine wpAny_bind (wpAny_field hz rfl (x := .ref TI) rfl (wpAny_bind (wpAny_seqItems hI rfl ?_)))
  show wpAny _ _ (Builtin.SmallTypes.ownedTupleIsFree (.ref z) >>= _) _ _ _
  refine wpAny_bind ?_
  unfold Builtin.SmallTypes.ownedTupleIsFree
  refine wpAny_bind (wpAny_field hz rfl (x := .none) rfl (wpAny_pure ?_))
  simp only [if_true]
  refine wpAny_bind (wpAny_rule (wpAny_bind (wpAny_field hz rfl (x := .ref TO) rfl (wpAny_bind (wpAny_setField_rec hz (by simp) fun ha za ka => wpAny_bind ?_)))))
  replace za : IsZip ha z TI TO .ellipsis := za
  simp only [List.zipIdx_cons, List.zipIdx_nil, List.forIn_cons, List.forIn_nil]
  -- the first
  refine wpAny_bind (wpAny_bind (wpAny_onRaise ?_))
  show wpAny _ _ (Builtin.SmallTypes.nextOf (.ref i1) >>= _) _ _ _
  have t1a : S1 k ha := W1.frame _ _ _ t1 fun c hc o e => ka.extBut _ _ (Fa.g1 c hc).1 e
  refine wpAny_bind (W1.item k { s with heap := ha } _ _ l1 t1a fun x hb tb px t1b kb => wpAny_pure ?_)
  have Ob : IsPair hb TO a b := kb.extBut _ _ m4 (ka.extBut _ _ z2 hO)
  refine wpAny_bind (wpAny_seqItems Ob rfl (wpAny_bind (wpAny_updateSeq_pair Ob fun hc Oc kc => ?_)))
  replace Oc : IsPair hc TO x b := Oc
  refine wpAny_bind (wpAny_letGo (wpAny_pure ?_))
  -- the second
  refine wpAny_bind (wpAny_bind (wpAny_onRaise ?_))
  show wpAny _ _ (Builtin.SmallTypes.nextOf (.ref i2) >>= _) _ _ _
  have t2c : S2 k hc := W2.frame _ _ _ t2 fun c hm o e => kc.extBut _ _ (Fa.g2 c hm).2.1 (kb.extBut _ _ (Fa.g2 c hm).2.2 (ka.extBut _ _ (Fa.g2 c hm).1 e))
  refine wpAny_bind (W2.item k { s with heap := hc, toks := tb } _ _ l2 t2c fun y hd td py t2d kd => wpAny_pure ?_)
  have Od : IsPair hd TO x b := kd.extBut _ _ m5 Oc
  refine wpAny_bind (wpAny_seqItems Od rfl (wpAny_bind (wpAny_updateSeq_pair Od fun he Oe ke => ?_)))
  replace Oe : IsPair he TO x y := Oe
  refine wpAny_bind (wpAny_letGo (wpAny_pure (wpAny_pure ?_)))
  refine wpAny_bind (wpAny_seqItems Oe rfl (wpAny_bind (wpAny_newTuple ?_)))
  have hsz : he.objs.size = s.heap.objs.size := by rw [ke.1, kd.1, kc.1, kb.1, ka.1]
  have ze : IsZip he z TI TO .ellipsis := ke.extBut _ _ z2.symm (kd.extBut _ _ z4.symm (kc.extBut _ _ z2.symm (kb.extBut _ _ z3.symm za)))
  have kk : ∀ c o, c ≠ z → c ≠ TO → c ≠ i1 → c ≠ i2 → s.heap.get? c = some o → he.get? c = some o := fun c o c1 c2 c3 c4 e => ke.extBut _ _ c2 (kd.extBut _ _ c4 (kc.extBut _ _ c2 (kb.extBut _ _ c3 (ka.extBut _ _ c1 e))))
  have lz : z < he.objs.size := Heap.lt_size ze
  show wpAny _ _ (Builtin.SmallTypes.ownedTupleHandOut (.ref z) (.ref he.objs.size) >>= _) _ _ _
  refine wpAny_bind ?_
  unfold Builtin.SmallTypes.ownedTupleHandOut
  have zf : IsZip (he.push { cls := .type "tuple", data := .seq #[x, y] }) z TI TO .ellipsis := Heap.get?_push_of_some _ ze
  refine wpAny_bind (wpAny_setField_rec zf (by simp) fun hf zf' kf => ?_)
  replace zf' : IsZip hf z TI TO (rawInt he.objs.size) := zf'
  refine wpAny_setField_rec zf' (by simp) fun hg zg kg => ?_
  replace zg : IsZip hg z TI TO (rawInt he.objs.size) := zg
  have up : ∀ c o, c ≠ z → he.get? c = some o → hg.get? c = some o := fun c o c1 e => kg.extBut _ _ c1 (kf.extBut _ _ c1 (Heap.get?_push_of_some _ e))
  have Tg : IsPair hg he.objs.size x y := kg.extBut _ _ (Nat.ne_of_gt lz) (kf.extBut _ _ (Nat.ne_of_gt lz) (Heap.get?_push_size _ rfl))
  have sg : hg.objs.size = he.objs.size + 1 := by rw [kg.1, kf.1, Heap.size_push]
  rw [hsz] at zg Tg sg
  refine wpAny_pure ⟨_, rfl, ?_⟩
  show Q (.ref he.objs.size) _
  rw [hsz]
  refine hQ x y hg td px py zg ⟨x, y, up _ _ z2 Oe⟩ (W1.frame _ _ _ t1b fun c hm o e => up c o (Fa.g1 c hm).1 (ke.extBut _ _ (Fa.g1 c hm).2.1 (kd.extBut _ _ (Fa.g1 c hm).2.2 (kc.extBut _ _ (Fa.g1 c hm).2.1 e))))
    (W2.frame _ _ _ t2d fun c hm o e => up c o (Fa.g2 c hm).1 (ke.extBut _ _ (Fa.g2 c hm).2.1 e)) Tg sg fun c o c1 c2 c3 c4 e => up c o c1 (kk c o c1 c2 c3 c4 e)
theorem hue_zip_end {z TI TO i1 i2 : Addr} {f1 : List Addr} {n1 : Nat} {P1 : Nat → Value → Prop} {S1 : Nat → Heap → Prop} {Q : Fin → Shared → Prop}
    (W1 : Draws prog w A i1 f1 n1 P1 S1) (iz : i1 ≠ z) (g1 : ∀ c ∈ f1, c ≠ z) (hz : IsZip s.heap z TI TO .none) (hI : IsPair s.heap TI (.ref i1) (.ref i2)) (t1 : S1 n1 s.heap)
    (hE : ∀ h' e, (∀ c o, c ≠ z → c ≠ i1 → s.heap.get? c = some o → h'.get? c = some o) → (∃ o, h'.get? e = some o ∧ o.cls = .type "StopIteration") → E (.ref e) { s with heap := h' }) :
    wpAny (model prog w) A (Builtin.«zip.__next__» ⟨[.ref z], []⟩) Q E s := by
  show wpAny _ _ (field (.ref z) 2 >>= _) _ _ _
  refine wpAny_bind (wpAny_field hz rfl (x := .bool false) rfl ?_)
  show wpAny _ _ (field (.ref z) 3 >>= _) _ _ _
  refine wpAny_bind (wpAny_field hz rfl (x := .ref TI) rfl (wpAny_bind (wpAny_seqItems hI rfl ?_)))
  show wpAny _ _ (Builtin.SmallTypes.ownedTupleIsFree (.ref z) >>= _) _ _ _
  refine wpAny_bind ?_
  unfold Builtin.SmallTypes.ownedTupleIsFree
  refine wpAny_bind (wpAny_field hz rfl (x := .none) rfl (wpAny_pure ?_))
  simp only [if_true]
  refine wpAny_bind (wpAny_rule (wpAny_bind (wpAny_field hz rfl (x := .ref TO) rfl (wpAny_bind (wpAny_setField_rec hz (by simp) fun ha za ka => wpAny_bind ?_)))))
  replace za : IsZip ha z TI TO .ellipsis := za
  simp only [List.zipIdx_cons, List.zipIdx_nil, List.forIn_cons, List.forIn_nil]
  refine wpAny_bind (wpAny_bind (wpAny_onRaise ?_))
  show wpAny _ _ (Builtin.SmallTypes.nextOf (.ref i1) >>= _) _ _ _
  refine wpAny_bind (W1.done { s with heap := ha } _ _ (W1.frame _ _ _ t1 fun c hc o e => ka.extBut _ _ (g1 c hc) e) fun hb e kb he => ?_)
  obtain ⟨oe, hoe, hce⟩ := he
  have zb : IsZip hb z TI TO .ellipsis := kb _ _ iz.symm za
  have ez : e ≠ z := fun x => by subst x; rw [zb] at hoe; cases hoe; simp at hce
  exact wpAny_setField_rec zb (by simp) fun hc _ kc => hE hc e (fun c o c1 c3 x => kc.extBut _ _ c1 (kb _ _ c3 (ka.extBut _ _ c1 x))) ⟨oe, kc.extBut _ _ ez hoe, hce⟩
theorem hue_next_zip_item {z TI TO i1 i2 : Addr} {f1 f2 : List Addr} {n1 n2 k : Nat} {P1 P2 : Nat → Value → Prop} {S1 S2 : Nat → Heap → Prop} {Q : Option Value → Shared → Prop}
    (W1 : Draws prog w A.in1 i1 f1 n1 P1 S1) (W2 : Draws prog w A.in1 i2 f2 n2 P2 S2) (Fa : ZipFar z TI TO i1 i2 f1 f2) (hz : IsZip s.heap z TI TO .none) (hI : IsPair s.heap TI (.ref i1) (.ref i2)) (hO : ∃ a b, IsPair s.heap TO a b)
    (t1 : S1 k s.heap) (t2 : S2 k s.heap) (l1 : k < n1) (l2 : k < n2)
    (hQ : ∀ x y h' tk, P1 k x → P2 k y → IsZip h' z TI TO (rawInt s.heap.objs.size) → (∃ a b, IsPair h' TO a b) → S1 (k + 1) h' → S2 (k + 1) h' → IsPair h' s.heap.objs.size x y → h'.objs.size = s.heap.objs.size + 1 →
      (∀ c o, c ≠ z → c ≠ TO → c ≠ i1 → c ≠ i2 → s.heap.get? c = some o → h'.get? c = some o) → Q (some (.ref s.heap.objs.size)) { s with heap := h', toks := tk }) :
    wpAny (model prog w) A (pyNext (.ref z)) Q E s := by
  have hT : s.TypeIs (.ref z) "zip" := ⟨_, hz, rfl⟩
  unfold pyNext
  exact wpAny_bind (wpAny_attempt (wpAny_callSpecial?_slot (name := Str.ofString "__next__") hT F.slot_zip_next
    (wpAny_call_entry F.slot_zip_next hT F.entry_zip_next (hue_zip_item W1 W2 Fa hz hI hO t1 t2 l1 l2 fun x y h' tk a1 a2 a3 a4 a5 a6 a7 a8 a9 => wpAny_pure (hQ x y h' tk a1 a2 a3 a4 a5 a6 a7 a8 a9)) (F.args_zip_next_1 _))))
theorem hue_next_zip_end {z TI TO i1 i2 : Addr} {f1 : List Addr} {n1 : Nat} {P1 : Nat → Value → Prop} {S1 : Nat → Heap → Prop} {Q : Option Value → Shared → Prop}
    (W1 : Draws prog w A.in1 i1 f1 n1 P1 S1) (iz : i1 ≠ z) (g1 : ∀ c ∈ f1, c ≠ z) (hz : IsZip s.heap z TI TO .none) (hI : IsPair s.heap TI (.ref i1) (.ref i2)) (t1 : S1 n1 s.heap)
    (hQ : ∀ h', (∀ c o, c ≠ z → c ≠ i1 → s.heap.get? c = some o → h'.get? c = some o) → Q none { s with heap := h' }) : wpAny (model prog w) A (pyNext (.ref z)) Q E s := by
  have hT : s.TypeIs (.ref z) "zip" := ⟨_, hz, rfl⟩
  unfold pyNext
  refine wpAny_bind (wpAny_attempt (wpAny_callSpecial?_slot (name := Str.ofString "__next__") hT F.slot_zip_next
    (wpAny_call_entry F.slot_zip_next hT F.entry_zip_next (hue_zip_end W1 iz g1 hz hI t1 fun h' e hk he => ?_) (F.args_zip_next_1 _))))
  obtain ⟨o, ho, hc⟩ := he
  exact wpAny_bind (wpAny_isInstance (T := "StopIteration") (b := true) ⟨o, ho, hc⟩ isSubtype_stop (wpAny_pure (hQ _ hk)))
end
abbrev ztIt (l : Addr) : Obj := { cls := .type "tuple_iterator", data := .fields #[.ref l, .int 0 0] }
abbrev zt3 (h : Heap) (l1 l2 : Addr) : Heap := ((h.push (ztIt l1)).push (ztIt l2)).push { cls := .type "tuple", data := .seq #[.ref h.objs.size, .ref (h.push (ztIt l1)).objs.size] }
abbrev zt4 (h : Heap) (l1 l2 : Addr) : Heap := (zt3 h l1 l2).push { cls := .type "tuple", data := .seq #[.none, .none] }
abbrev zt5 (h : Heap) (l1 l2 : Addr) : Heap := (zt4 h l1 l2).push { cls := .type "zip", data := .fields #[.none, .bool false, .bool false, .ref ((h.push (ztIt l1)).push (ztIt l2)).objs.size, .ref (zt3 h l1 l2).objs.size] }
theorem hue_zip_new (l1 l2 : Addr) (xs ys : Array Value) :
    Meets (Builtin.«zip.__new__» ⟨[.type "zip", .ref l1, .ref l2], []⟩) (fun _ R s => s.heap.IsTuple l1 xs ∧ s.heap.IsTuple l2 ys ∧
      R (.ok (.ret (.ref (zt4 s.heap l1 l2).objs.size))) { s with heap := zt5 s.heap l1 l2 }) :=
  .of_wp fun prog w A R s h => by
    obtain ⟨hp, g, d, tk, os⟩ := s; obtain ⟨hl1, hl2, h⟩ := h
    have hsub := sub_zip
    have hL1 : Heap.IsTuple (Shared.heap ⟨hp, g, d, tk, os⟩) l1 xs := hl1
    have hL2 : Heap.IsTuple (Shared.heap ⟨hp.push (ztIt l1), g, d, tk, os⟩) l2 ys := let ⟨o, e, r⟩ := hl2; ⟨o, Heap.get?_push_of_some _ e, r⟩
    wp_walk using wpAny_pyIter_tuple hL1, wpAny_pyIter_tuple hL2
    exact ⟨_, rfl, h⟩
section
variable {prog : Program} {w : World} {A : Around} {E : Value → Shared → Prop} {s : Shared}
theorem hue_call_zip {l1 l2 : Addr} {xs ys : Array Value} {Q : Value → Shared → Prop} (hl1 : s.heap.IsTuple l1 xs) (hl2 : s.heap.IsTuple l2 ys)
    (h : ∀ h', IsZip h' (s.heap.objs.size + 4) (s.heap.objs.size + 2) (s.heap.objs.size + 3) .none → IsPair h' (s.heap.objs.size + 2) (.ref s.heap.objs.size) (.ref (s.heap.objs.size + 1)) →
      (∃ a b, IsPair h' (s.heap.objs.size + 3) a b) → h'.IsTupleIter s.heap.objs.size l1 0 → h'.IsTupleIter (s.heap.objs.size + 1) l2 0 →
      (∀ c o, s.heap.get? c = some o → h'.get? c = some o) → Q (.ref (s.heap.objs.size + 4)) { s with heap := h' }) :
    wpAny (model prog w) A (call (.type "zip") [.ref l1, .ref l2]) Q E s := by
  refine callType_new F.called_zip (by decide) (F.typeCall_zip_2 _ _) (F.newCall_zip_2 _ _) (fun obj => F.args_object_init_3 obj _ _) F.entry_zip_new (hue_zip_new l1 l2 xs ys) ⟨hl1, hl2, ?_⟩
  have y1 : (s.heap.push (ztIt l1)).objs.size = s.heap.objs.size + 1 := Heap.size_push ..
  have y2 : ((s.heap.push (ztIt l1)).push (ztIt l2)).objs.size = s.heap.objs.size + 2 := by rw [Heap.size_push, y1]
  have y3 : (zt3 s.heap l1 l2).objs.size = s.heap.objs.size + 3 := by rw [Heap.size_push, y2]
  have y4 : (zt4 s.heap l1 l2).objs.size = s.heap.objs.size + 4 := by rw [Heap.size_push, y3]
  have up : ∀ {h0 : Heap} {o1 : Obj} {c o}, h0.get? c = some o → (h0.push o1).get? c = some o := fun e => Heap.get?_push_of_some _ e
  have q5 : (zt5 s.heap l1 l2).get? (zt4 s.heap l1 l2).objs.size = some _ := Heap.get?_push_size _ rfl
  have q4 : (zt5 s.heap l1 l2).get? (zt3 s.heap l1 l2).objs.size = some _ := up (Heap.get?_push_size _ rfl)
  have q3 : (zt5 s.heap l1 l2).get? ((s.heap.push (ztIt l1)).push (ztIt l2)).objs.size = some _ := up (up (Heap.get?_push_size _ rfl))
  have q2 : (zt5 s.heap l1 l2).get? (s.heap.push (ztIt l1)).objs.size = some _ := up (up (up (Heap.get?_push_size _ rfl)))
  have q1 : (zt5 s.heap l1 l2).get? s.heap.objs.size = some _ := up (up (up (up (Heap.get?_push_size _ rfl))))
  show _ ∧ _
  rw [y2, y3, y4] at q5
  rw [y1, y2] at q3
  rw [y3] at q4
  rw [y1] at q2
  rw [y4]
  exact ⟨⟨_, q5, rfl⟩, h _ q5 q3 ⟨_, _, q4⟩ ⟨_, q1, rfl, rfl⟩ ⟨_, q2, rfl, rfl⟩ fun c o x => up (up (up (up (up x))))⟩
end
end PySem
namespace L2
open PySem PySem.Spec PyProof.Rows
def ItzT (K : PySem.W.Frag) (a b : Addr) : It :=
  ⟨fun i H => ∃ xs ys x y, SqT K H a xs ∧ SqT K H b ys ∧ xs[i]? = some x ∧ ys[i]? = some y,
   fun i H x H' => ∃ p v u, H p = none ∧ x = .ref p ∧ (∀ xs, SqT K H a xs → xs[i]? = some v) ∧ (∀ ys, SqT K H b ys → ys[i]? = some u) ∧ H' = upd H p (.tup [v, u]),
   fun i H => ∃ xs, SqT K H a xs ∧ xs.length = i⟩
theorem far_tup {z TI TO i1 i2 l1 l2 : Addr} (D : ZipApart z TI TO i1 i2 l1 l2) : ZipFar z TI TO i1 i2 [i1, l1] [i2, l2] where
  iz := ⟨D.TIz, D.TOz, D.i1z, D.i2z⟩
  im := ⟨D.TITO, D.TIi1, D.TIi2, D.TOi1, D.TOi2, D.i12⟩
  g1 := fun c hc => by
    rcases List.mem_cons.mp hc with rfl | hc
    · exact ⟨D.i1z, D.TOi1.symm, D.i12⟩
    · rw [List.mem_singleton.mp hc]; exact ⟨D.l1z, D.l1TO, D.l1i2⟩
  g2 := fun c hc => by
    rcases List.mem_cons.mp hc with rfl | hc
    · exact ⟨D.i2z, D.TOi2.symm, D.i12.symm⟩
    · rw [List.mem_singleton.mp hc]; exact ⟨D.l2z, D.l2TO, D.l2i1⟩
theorem turn_zipT {P : Program} {w : World} {K : PySem.W.Frag} {elts : List Expr} {kx : Nat} {tp : Pos} (z TI TO i1 i2 l1 l2 : Addr) (D : ZipApart z TI TO i1 i2 l1 l2) : Turn P w K (.Tuple elts kx tp) (ItzT K l1 l2) [z, TI, TO, i1, i2] z
    (fun i h => IsZip h z TI TO .none ∧ IsPair h TI (.ref i1) (.ref i2) ∧ (∃ a b, IsPair h TO a b) ∧ h.IsTupleIter i1 l1 i ∧ h.IsTupleIter i2 l2 i) where
  mem := by simp
  obj := fun i h st b hb => by
    obtain ⟨hz, hTI, ⟨a', b', hTO⟩, ⟨o1, e1, c1, d1⟩, ⟨o2, e2, c2, d2⟩⟩ := st
    simp only [List.mem_cons, List.not_mem_nil, or_false] at hb
    rcases hb with rfl | rfl | rfl | rfl | rfl
    · exact ⟨_, hz, fun v q => by cases q⟩
    · exact ⟨_, hTI, fun v q => by cases q⟩
    · exact ⟨_, hTO, fun v q => by cases q⟩
    · exact ⟨o1, e1, fun v q => by rw [d1] at q; cases q⟩
    · exact ⟨o2, e2, fun v q => by rw [d2] at q; cases q⟩
  keep := fun i h h' st k => by
    obtain ⟨hz, hTI, ⟨a', b', hTO⟩, h1, h2⟩ := st
    exact ⟨k z (by simp) _ hz, k TI (by simp) _ hTI, ⟨a', b', k TO (by simp) _ hTO⟩, h1.at fun o q => k i1 (by simp) o q, h2.at fun o q => k i2 (by simp) o q⟩
  item := by
    intro X hP hw hK hc i pins s σ H E I hf st hg
    subst hP hw hK
    obtain ⟨xs, ys, x, y, hq1, hq2, hx, hy⟩ := hg
    obtain ⟨its1, rv1, p1, hz1⟩ := I.tuple hq1
    obtain ⟨its2, rv2, p2, hz2⟩ := I.tuple hq2
    obtain ⟨u1, hu1, ru1⟩ := rv1.get hx
    obtain ⟨u2, hu2, ru2⟩ := rv2.get hy
    obtain ⟨hz, hTI, hTO, h1, h2⟩ := st
    have hs1 : i < its1.toArray.size := by simpa using (List.getElem?_eq_some_iff.mp hu1).1
    have hs2 : i < its2.toArray.size := by simpa using (List.getElem?_eq_some_iff.mp hu2).1
    refine hue_next_zip_item (hue_draws_tuple (prog := X.prog) (w := X.w) (A := X.A.in1) (show X.A.in1.handled = none from I.ok.hd hc) i1 l1 D.l1i1 its1.toArray) (hue_draws_tuple (prog := X.prog) (w := X.w) (A := X.A.in1) (show X.A.in1.handled = none from I.ok.hd hc) i2 l2 D.l2i2 its2.toArray) (far_tup D) hz hTI hTO ⟨h1, p1⟩ ⟨h2, p2⟩ hs1 hs2 fun v1 v2 h' tk e1 e2 b1 b2 b3 b4 b5 b6 hk => ?_
    have e1 : v1 = u1 := by have := e1.symm.trans (show its1.toArray[i]? = some u1 by simpa using hu1); cases this; rfl
    have e2 : v2 = u2 := by have := e2.symm.trans (show its2.toArray[i]? = some u2 by simpa using hu2); cases this; rfl
    subst e1 e2
    refine ⟨_, rfl, ?_⟩
    have I1 : Inv X pins σ (upd H s.heap.objs.size (.tup [x, y])) { s with heap := h', toks := tk } :=
      I.turnLay (t' := tk) (ch := [z, TI, TO, i1, i2]) (fun b o hb q => hk b o (fun e => hb (by simp [e])) (fun e => hb (by simp [e])) (fun e => hb (by simp [e])) (fun e => hb (by simp [e])) q) hf ⟨two_le, [v1, v2], .cons ru1 (.cons ru2 .nil), ⟨_, b5, rfl, _, rfl⟩⟩
    have lt1 : i1 < s.heap.objs.size := by obtain ⟨_, q, _⟩ := h1; exact Heap.lt_size q
    have lt2 : i2 < s.heap.objs.size := by obtain ⟨_, q, _⟩ := h2; exact Heap.lt_size q
    obtain ⟨a', b', hTO⟩ := hTO
    have hfp1 : ∀ b ∈ [z, TI, TO, i1, i2], FpOk X pins (upd H s.heap.objs.size (.tup [x, y])) b := fun b hb => by
      obtain ⟨f0, f1⟩ := hf b hb
      have hbl : b ≠ s.heap.objs.size := by
        simp only [List.mem_cons, List.not_mem_nil, or_false] at hb
        rcases hb with rfl | rfl | rfl | rfl | rfl
        · exact Nat.ne_of_lt (Heap.lt_size hz)
        · exact Nat.ne_of_lt (Heap.lt_size hTI)
        · exact Nat.ne_of_lt (Heap.lt_size hTO)
        · exact Nat.ne_of_lt lt1
        · exact Nat.ne_of_lt lt2
      exact ⟨by rw [upd_ne hbl]; exact f0, f1⟩
    refine wpAny_letOwnedTupleGo_zip b1 fun h2' hz' hs' => ?_
    have I2 : Inv X pins σ (upd H s.heap.objs.size (.tup [x, y])) { s with heap := h2', toks := tk } :=
      Inv.turnedL (s := { s with heap := h', toks := tk }) (t' := tk) (ch := [z, TI, TO, i1, i2]) I1 (fun b o hb q => (hs'.2 b (fun e => hb (by simp [e]))).trans q) hfp1
    obtain ⟨a2, b2', b2⟩ := b2
    refine ⟨.ref s.heap.objs.size, _, I2, rfl, ⟨_, x, y, I.fresh, rfl, fun zs hy' => by rw [I.tuple_inj hy' hq1]; exact hx, fun zs hy' => by rw [I.tuple_inj hy' hq2]; exact hy, rfl⟩,
      ⟨hz', hs'.extBut _ _ D.TIz (hk _ _ D.TIz D.TITO D.TIi1 D.TIi2 hTI), ⟨_, _, hs'.extBut _ _ D.TOz b2⟩, b3.1.at fun o q => hs'.extBut _ _ D.i1z q, b4.1.at fun o q => hs'.extBut _ _ D.i2z q⟩, fun b hb => (hfp1 b hb).1⟩
  done := by
    intro X hP hw hK hc i pins s σ H E I hf st hg
    subst hP hw hK
    obtain ⟨xs, hq1, hx⟩ := hg
    obtain ⟨its1, rv1, p1, hz1⟩ := I.tuple hq1
    obtain ⟨hz, hTI, hTO, h1, h2⟩ := st
    have hl1 := rv1.length
    have hsz : i = its1.toArray.size := by rw [← hx, hl1]; simp
    subst hsz
    refine hue_next_zip_end (hue_draws_tuple (prog := X.prog) (w := X.w) (A := X.A.in1) (show X.A.in1.handled = none from I.ok.hd hc) i1 l1 D.l1i1 its1.toArray) D.i1z (fun c hc => ((far_tup D).g1 c hc).1) hz hTI ⟨h1, p1⟩ fun h' hk => ⟨rfl, I.turnedL (t' := s.toks) (ch := [z, TI, TO, i1, i2]) (fun b o hb q => hk b o (fun e => hb (by simp [e])) (fun e => hb (by simp [e])) q) hf⟩
  self := fun _ _ _ _ _ st h => wpAny_pyIter_zip st.1 h
section
variable {X : Cx}
def iZipT (K : PySem.W.Frag) (ta : TA) : TI := fun σ H R => ta σ H fun vs H1 => ∃ a b, vs = [.ref a, .ref b] ∧ (∃ xs, SqT K H1 a xs) ∧ (∃ ys, SqT K H1 b ys) ∧ R (ItzT K a b) H1
theorem pi_zipT {a b : Expr} {ta : TA} {p pos : Pos} {elts : List Expr} {kx : Nat} {tp : Pos} (hg : Gl X "zip") (hm : X.mg "zip" = none) (ha : PA X [a, b] ta) (hs : starEach [a, b] X.env = [(false, eval a X.env), (false, eval b X.env)] := by rfl)
    (hs2 : starEach [b] X.env = [(false, eval b X.env)] := by rfl) : PI X (.Tuple elts kx tp) (.Call (.Name "zip" p) [a, b] [] pos) (iZipT X.K ta) := by
  intro pins s σ H R I h
  refine Call_ (ld_blt I hg hm boot_zip (PyProof.Rows.callWith_type1 (thn (ha pos pins s σ H _ I h) fun us s1 ⟨vs, H1, I1, r1, q1⟩ => ?_) (by rw [hs, hs2]) (by rw [hs2]; rfl)))
  obtain ⟨l1, l2, e, ⟨xs, hq1⟩, ⟨ys, hq2⟩, q⟩ := q1
  subst e
  obtain ⟨u1, u2, rfl, r1', r2'⟩ := Vals.two r1
  cases r1'
  cases r2'
  obtain ⟨its1, rv1, p1, hz1⟩ := I1.tuple hq1
  obtain ⟨its2, rv2, p2, hz2⟩ := I1.tuple hq2
  have hl1 : @LT.lt Nat _ l1 s1.heap.objs.size := by obtain ⟨o, e, _⟩ := p1; exact Heap.lt_size e
  have hl2 : @LT.lt Nat _ l2 s1.heap.objs.size := by obtain ⟨o, e, _⟩ := p2; exact Heap.lt_size e
  refine hue_call_zip p1 p2 fun h' c1 c2 c3 c4 c5 hk => ?_
  refine wpAny_pyIter_zip c1 ?_
  have I2 : Inv X pins σ H1 { s1 with heap := h' } := I1.kept (t' := s1.toks) hk
  refine ⟨s1.heap.objs.size + 4, [s1.heap.objs.size + 4, s1.heap.objs.size + 2, s1.heap.objs.size + 3, s1.heap.objs.size, s1.heap.objs.size + 1], _, _, H1, rfl, I2, turn_zipT _ _ _ _ _ l1 l2 ?_, ⟨c1, c2, c3, c4, c5⟩, fun b hb => ?_, q⟩
  · constructor <;> (show @Ne Nat _ _) <;> omega
  · have hb2 : @LE.le Nat _ s1.heap.objs.size b := by
      simp only [List.mem_cons, List.not_mem_nil, or_false] at hb
      rcases hb with rfl | rfl | rfl | rfl | rfl
      · exact Nat.le_add_right _ _
      · exact Nat.le_add_right _ _
      · exact Nat.le_add_right _ _
      · exact Nat.le_refl _
      · exact Nat.le_add_right _ _
    exact I1.fpOk hb2 (I1.hok.fresh hb2)
end
theorem comp_zipT {K : PySem.W.Frag} {a b : Addr} {xs zs : List V} {g : TG} {tt : TT} {te : TE} {D : Addr} {σ' : St} {Q : List V → Hp → Prop} {H1 : Hp} (hlen : xs.length = zs.length) (Pv : Nat → List V → Hp → Prop) (h0 : Pv 0 [] (upd H1 D (.lst [])))
    (hl : ∀ i ys H, i ≤ xs.length → Pv i ys H → SqT K H a xs ∧ SqT K H b zs)
    (hs : ∀ i x z ys H p, xs[i]? = some x → zs[i]? = some z → Pv i ys H → H p = none → CompTurn g tt te D σ' ys (Pv (i + 1)) (.ref p) (upd H p (.tup [x, z]))) (hd : ∀ ys H, Pv xs.length ys H → Q ys H) :
    ∃ W : Nat → Nat → List V → Hp → Prop, (∃ m, W 0 m [] (upd H1 D (.lst []))) ∧ CompW (ItzT K a b) g tt te D σ' Q W := by
  refine ⟨fun i m ys H => m = xs.length - i ∧ i ≤ xs.length ∧ Pv i ys H, ⟨xs.length, by simp, Nat.zero_le _, h0⟩, ?_⟩
  rintro i m ys H ⟨rfl, hi, p⟩
  obtain ⟨q1, q2⟩ := hl i ys H hi p
  by_cases hlt : i < xs.length
  · refine .inr ⟨⟨xs, zs, xs[i], zs[i]'(by omega), q1, q2, by simp [hlt], by simp⟩, Pv (i + 1), fun ys' H' p' => ⟨xs.length - (i + 1), by omega, rfl, hlt, p'⟩, fun x H' y => ?_⟩
    obtain ⟨pp, v, u, hp, e1, hv, hu, e2⟩ := y
    subst e1 e2
    exact hs i v u ys _ pp (hv xs q1) (hu zs q2) p hp
  · have e : i = xs.length := by omega
    subst e
    exact .inl ⟨⟨xs, q1, rfl⟩, hd ys H p⟩
end L2
set_option Elab.async false
set_option linter.all false
set_option maxRecDepth 100000
set_option maxHeartbeats 4000000
namespace Hue
open PySem L2
def top (i : Nat) : Stmt := PySem.Challenge.pw_huedties_k20_fans_turned.main.body.getD i (.Pass ⟨0, 0, 0, 0⟩)
abbrev sTape : Stmt := top 3
abbrev sDraw : Stmt := top 4
abbrev sPairs : Stmt := top 5
abbrev sWeb : Stmt := top 6
theorem b_abs : bootBuiltins "abs" = some (.builtin "abs") := by decide +kernel
theorem b_min : bootBuiltins "min" = some (.builtin "min") := by decide +kernel
theorem b_max : bootBuiltins "max" = some (.builtin "max") := by decide +kernel
theorem b_len : bootBuiltins "len" = some (.builtin "len") := by decide +kernel
theorem b_all : bootBuiltins "all" = some (.builtin "all") := by decide +kernel
theorem b_isi : bootBuiltins "isinstance" = some (.builtin "isinstance") := by decide +kernel
theorem b_int : bootBuiltins "int" = some (.type "int") := by decide +kernel
theorem b_list : bootBuiltins "list" = some (.type "list") := by decide +kernel
theorem b_tuple : bootBuiltins "tuple" = some (.type "tuple") := by decide +kernel
theorem b_str : bootBuiltins "str" = some (.type "str") := by decide +kernel
theorem b_bool : bootBuiltins "bool" = some (.type "bool") := by decide +kernel
theorem b_range : bootBuiltins "range" = some (.type "range") := by decide +kernel
theorem ps_via {X : Cx} {st : Stmt} {t : TS} (t' : TS) (h : PS X st t) (imp : ∀ D σ H, t' D σ H → t D σ H) : PS X st t' := fun pins s σ H D I hw => h pins s σ H D I (imp D σ H hw)
theorem b01 (b : Bool) : -(2 ^ 64) < (if b = true then (1 : Int) else 0) ∧ (if b = true then (1 : Int) else 0) < 2 ^ 64 := by cases b <;> decide
def Ext (t : Addr) (H H' : Hp) : Prop := ∀ b o, b ≠ t → H b = some o → H' b = some o
theorem Ext.refl (t : Addr) (H : Hp) : Ext t H H := fun _ _ _ h => h
theorem Ext.trans {t : Addr} {H H1 H2 : Hp} (a : Ext t H H1) (b : Ext t H1 H2) : Ext t H H2 := fun c o n h => b c o n (a c o n h)
theorem Ext.new {t p : Addr} {H H1 : Hp} {o : HO} (a : Ext t H H1) (n : H1 p = none) : Ext t H (upd H1 p o) := fun c u ne h => by
  have h1 := a c u ne h
  rw [upd_ne (ne_of_none h1 n)]; exact h1
theorem Ext.free {t p : Addr} {H H1 : Hp} (a : Ext t H H1) (n : H1 p = none) (ne : p ≠ t) : H p = none := by
  cases q : H p with
  | none => rfl
  | some o => rw [a p o ne q] at n; cases n
def Tape (H : Hp) (t : Addr) : Prop := ∃ d e : Int, H t = some (.lst [.int d, .int e]) ∧ 0 ≤ d ∧ 0 ≤ e ∧ e < 2147483647
theorem Tape.some {H : Hp} {t : Addr} (h : Tape H t) : ∃ o, H t = Option.some o := let ⟨_, _, h, _⟩ := h; ⟨_, h⟩
theorem Tape.keep {H H' : Hp} {t : Addr} (h : Tape H t) (k : ∀ o, H t = Option.some o → H' t = Option.some o) : Tape H' t := let ⟨d, e, h, r⟩ := h; ⟨d, e, k _ h, r⟩
theorem Tape.new {H : Hp} {t p : Addr} {o : HO} (h : Tape H t) (n : H p = none) : Tape (upd H p o) t := h.keep fun u q => by rw [upd_ne (ne_of_none q n)]; exact q
theorem Tape.ne {H : Hp} {t p : Addr} (h : Tape H t) (n : H p = none) : p ≠ t := by
  obtain ⟨o, e⟩ := h.some
  exact (ne_of_none e n).symm
def spTape (K : PySem.W.Frag) : Sp := fun vs H Q _ => ∃ (a : Addr) (ns : List Int) (k : Int), vs = [.ref a, .int k] ∧ SqL K H a (ns.map V.int) ∧ 0 ≤ k ∧ ns.length ≤ 63 ∧
  ∀ (t : Addr) (H' : Hp), H t = none → Tape H' t → Same H H' → Q (.ref t) H'
def spDraw : Sp := fun vs H Q _ => ∃ (t : Addr) (m : Int), vs = [.ref t, .int m] ∧ Tape H t ∧ 0 < m ∧ m < 1073741824 ∧
  ∀ (r : Int) (H' : Hp), 0 ≤ r → r < m → Tape H' t → Ext t H H' → Q (.int r) H'
structure Txt (K : PySem.W.Frag) (mg : Str → Option Value) : Prop where
  len : mg "len" = none
  abs : mg "abs" = none
  int : mg "int" = none
  min : mg "min" = none
  max : mg "max" = none
  range : mg "range" = none
  tuple : mg "tuple" = none
  list : mg "list" = none
  enum : mg "enumerate" = none
  zip : mg "zip" = none
  isi : mg "isinstance" = none
  all : mg "all" = none
  str : mg "str" = none
  bool : mg "bool" = none
section
variable {P : Program} {w : World} {K : PySem.W.Frag} {mg : Str → Option Value} {base : Heap}
theorem scTape : FnScope ["_law_script", "_law_k", "_law_cell", "_law_digits"] ["_law_script", "_law_k"] (defScope sTape) := ⟨rfl, rfl, rfl, by decide +kernel, rfl, by decide +kernel, by decide +kernel⟩
theorem ok_tape {f : Addr} {fd : FuncData} (F : Fun K "_law_tape" "_law_tape" sTape f fd) (T : Txt K mg) : FnOk P w K mg base CX0 1 f fd ["_law_script", "_law_k"] (spTape K) := by
  refine F.ok scTape (fun vs H Q E h => ?_) (fun cdv A outer s H vs Q E hr h => ?_)
  · obtain ⟨a, ns, k, rfl, _⟩ := h; rfl
  · obtain ⟨a, ns, k, rfl, hS, hk, hn, q⟩ := h
    refine ⟨_, pss_cons (ps_set (i := 2) scTape.nd rfl (Or.inl rfl) pe_int)
      (pss_cons (ps_if (pt_cmpR op_lt (pv 1) (pe_callB call_len_seq (by rfl) T.len b_len (pa_cons (pv 0) pa_nil)) (nomark _))
        (pss_one (ps_set (i := 2) scTape.nd rfl (Or.inl rfl) (pe_ix ix_list (pv 0) (pv 1) (fun _ _ => rfl)))) pss_nil)
      (pss_cons (ps_set (i := 3) scTape.nd rfl (Or.inl rfl) (pe_op op_mul (pe_callB call_abs (by rfl) T.abs b_abs (pa_cons (pv 2) pa_nil))
        (pe_callTy call_int1 (by rfl) T.int b_int (pa_cons (pe_cmpR op_ge (pe_callB call_abs (by rfl) T.abs b_abs (pa_cons (pv 2) pa_nil)) (pe_op op_pow pe_int pe_int) (nomark _)) pa_nil))))
      (pss_one (ps_ret (pe_lst (pa_cons (pv 3) (pa_cons (pe_op op_mod (pe_op op_mul (pe_op op_mod (pe_op op_add (pe_op op_add (pv 2) (pe_op op_mul pe_int (pv 1))) pe_int) pe_int) pe_int) pe_int) pa_nil))))))), ?_⟩
    have rest : ∀ c : Int, ∀ b : Bool, ∀ p, H p = none → Q (.ref p) (upd H p (.lst [.int ((if c < 0 then -c else c) * (if b then 1 else 0)), .int ((c + 7919 * k + 1) % 2147483647 * 48271 % 2147483647)])) := by
      intro c b p hp
      refine q p _ hp ⟨_, _, upd_same, ?_, ?_, ?_⟩ fun x o e => ?_
      · split <;> split <;> omega
      · omega
      · omega
      · rw [upd_ne (ne_of_none e hp)]; exact e
    refine ⟨_, rfl, _, rfl, a, _, rfl, .inl hS, _, _, rfl, rfl, _, rfl, ?_⟩
    refine ite2 (fun hlt => ?_) (fun hlt => ?_)
    · have hlt' : k < ((ns.map V.int).length : Nat) := of_decide_eq_true hlt
      rw [List.length_map] at hlt'
      have hg : (ns.map V.int)[k.toNat]? = some (V.int (ns.getD k.toNat 0)) := by
        rw [List.getElem?_map]
        have : k.toNat < ns.length := by omega
        simp [List.getD, this]
      refine ⟨_, rfl, _, rfl, a, _, _, _, rfl, rfl, hS, (by have := atI_nat hg; rwa [Int.toNat_of_nonneg hk] at this), ?_⟩
      refine ⟨_, rfl, _, rfl, _, rfl, _, rfl, _, _, rfl, rfl, ⟨by decide, by decide, by decide⟩, _, _, rfl, rfl, .inr ⟨_, rfl, ?_⟩⟩
      refine ⟨_, _, rfl, rfl, .inr (b01 _), ?_⟩
      refine ⟨_, rfl, _, rfl, _, rfl, _, _, rfl, rfl, .inl ⟨by decide, by decide⟩, _, _, rfl, rfl, _, _, rfl, rfl, _, _, rfl, rfl, (by show (0 : Int) < 2147483647; decide), _, _, rfl, rfl, .inr ⟨by decide, by decide⟩, _, _, rfl, rfl, (by show (0 : Int) < 2147483647; decide), ?_⟩
      exact ⟨by show 2 ≤ sizeLine; decide, fun p hp => rest _ _ p hp⟩
    · refine ⟨_, rfl, _, rfl, _, rfl, _, rfl, _, _, rfl, rfl, ⟨by decide, by decide, by decide⟩, _, _, rfl, rfl, .inr ⟨_, rfl, ?_⟩⟩
      refine ⟨_, _, rfl, rfl, .inr (b01 _), ?_⟩
      refine ⟨_, rfl, _, rfl, _, rfl, _, _, rfl, rfl, .inl ⟨by decide, by decide⟩, _, _, rfl, rfl, _, _, rfl, rfl, _, _, rfl, rfl, (by show (0 : Int) < 2147483647; decide), _, _, rfl, rfl, .inr ⟨by decide, by decide⟩, _, _, rfl, rfl, (by show (0 : Int) < 2147483647; decide), ?_⟩
      exact ⟨by show 2 ≤ sizeLine; decide, fun p hp => rest _ _ p hp⟩
theorem scDraw : FnScope ["_law_tape_here", "_law_many", "_law_found", "_law_once"] ["_law_tape_here", "_law_many"] (defScope sDraw) := ⟨rfl, rfl, rfl, by decide +kernel, rfl, by decide +kernel, by decide +kernel⟩
theorem ok_draw {f : Addr} {fd : FuncData} (F : Fun K "_law_draw" "_law_draw" sDraw f fd) (T : Txt K mg) : FnOk P w K mg base CX0 1 f fd ["_law_tape_here", "_law_many"] spDraw := by
  refine F.ok scDraw (fun vs H Q E h => ?_) (fun cdv A outer s H vs Q E hr h => ?_)
  · obtain ⟨t, m, rfl, _⟩ := h; rfl
  · obtain ⟨t, m, rfl, ⟨d, e, ht, hd, he0, he1⟩, hm, hm2, q⟩ := h
    refine ⟨_, pss_cons (ps_if (pt_cmpR op_gt (pe_ix ix_list (pv 0) pe_int (fun _ _ => rfl)) pe_int (nomark _))
        (pss_cons (ps_set (i := 2) scDraw.nd rfl (Or.inl rfl) (pe_op op_mod (pe_ix ix_list (pv 0) pe_int (fun _ _ => rfl)) (pv 1)))
        (pss_cons (ps_asg (pe_op op_fdiv (pe_ix ix_list (pv 0) pe_int (fun _ _ => rfl)) (pv 1)) (pg_sub (pv 0) pe_int set_list))
        (pss_one (ps_ret (pv 2))))) pss_nil)
      (pss_cons (ps_asg (pe_op op_mod (pe_op op_add (pe_op op_mul (pe_ix ix_list (pv 0) pe_int (fun _ _ => rfl)) pe_int) pe_int) pe_int) (pg_sub (pv 0) pe_int set_list))
      (pss_cons (ps_set (i := 3) scDraw.nd rfl (Or.inl rfl) (pe_op op_mod (pe_op op_mul (pe_ix ix_list (pv 0) pe_int (fun _ _ => rfl)) (pe_op op_add (pe_op op_mod (pe_ix ix_list (pv 0) pe_int (fun _ _ => rfl)) pe_int) pe_int)) pe_int))
      (pss_one (ps_ret (pe_op op_mod (pe_op op_mod (pe_op op_mul (pv 3) (pe_op op_add (pe_op op_mod (pv 3) pe_int) pe_int)) pe_int) (pv 1)))))), ?_⟩
    have fin : ∀ (r d' e' : Int), 0 ≤ r → r < m → 0 ≤ d' → 0 ≤ e' → e' < 2147483647 → Q (.int r) (upd H t (.lst [.int d', .int e'])) := fun r d' e' h1 h2 h3 h4 h5 =>
      q r _ h1 h2 ⟨d', e', upd_same, h3, h4, h5⟩ fun b o hb z => by rw [upd_ne hb]; exact z
    refine ⟨_, rfl, t, _, _, _, rfl, rfl, SqL.of ht, (rfl : atI [V.int d, V.int e] 0 = some (.int d)), _, _, rfl, rfl, _, rfl, ?_⟩
    refine ite2 (fun hlt => ?_) (fun hlt => ?_)
    · refine ⟨_, rfl, t, _, _, _, rfl, rfl, SqL.of ht, (rfl : atI [V.int d, V.int e] 0 = some (.int d)), _, rfl, _, _, rfl, rfl, hm, ?_⟩
      refine ⟨_, rfl, t, _, _, _, rfl, rfl, SqL.of ht, (rfl : atI [V.int d, V.int e] 0 = some (.int d)), _, rfl, _, _, rfl, rfl, ⟨hm, hm2⟩, ?_⟩
      refine ⟨_, rfl, t, _, 0, 0, rfl, rfl, ht, rfl, _, rfl, ?_⟩
      exact fin _ _ _ (Int.emod_nonneg _ (by omega)) (Int.emod_lt_of_pos _ hm) (Int.ediv_nonneg hd (by omega)) he0 he1
    · refine ⟨_, rfl, t, _, _, _, rfl, rfl, SqL.of ht, (rfl : atI [V.int d, V.int e] 1 = some (.int e)), _, _, rfl, rfl, .inr ⟨by decide, by decide⟩, _, _, rfl, rfl, _, _, rfl, rfl, (by show (0 : Int) < 2147483647; decide), ?_⟩
      refine ⟨_, rfl, t, _, 1, 1, rfl, rfl, ht, rfl, ?_⟩
      have h5 : (0 : Int) ≤ (e * 48271 + 12345) % 2147483647 := by omega
      have h6 : (e * 48271 + 12345) % 2147483647 < 2147483647 := by omega
      have ht2 : (upd H t (.lst ([V.int d, V.int e].set 1 (.int ((e * 48271 + 12345) % 2147483647))))) t = some (.lst [.int d, .int ((e * 48271 + 12345) % 2147483647)]) := upd_same
      refine ⟨_, rfl, t, _, _, _, rfl, rfl, SqL.of ht2, (rfl : atI [V.int d, V.int ((e * 48271 + 12345) % 2147483647)] 1 = some (.int ((e * 48271 + 12345) % 2147483647))), _, rfl, t, _, _, _, rfl, rfl, SqL.of ht2, (rfl : atI [V.int d, V.int ((e * 48271 + 12345) % 2147483647)] 1 = some (.int ((e * 48271 + 12345) % 2147483647))), _, _, rfl, rfl, (by show (0 : Int) < 1009; decide), _, _, rfl, rfl, _, _, rfl, rfl, .inl ⟨by omega, by omega⟩, _, _, rfl, rfl, (by show (0 : Int) < 2147483629; decide), ?_⟩
      have hz0 : ∃ z, ((e * 48271 + 12345) % 2147483647) * (((e * 48271 + 12345) % 2147483647) % 1009 + 3) % 2147483629 = z := ⟨_, rfl⟩
      obtain ⟨z, hz⟩ := hz0
      have hz1 : 0 ≤ z := by rw [← hz]; exact Int.emod_nonneg _ (by decide)
      have hz2 : z < 2147483629 := by rw [← hz]; exact Int.emod_lt_of_pos _ (by decide)
      refine ⟨_, rfl, _, rfl, _, _, rfl, rfl, (by show (0 : Int) < 997; decide), _, _, rfl, rfl, _, _, rfl, rfl, .inl (by rw [hz]; omega), _, _, rfl, rfl, (by show (0 : Int) < 998244353; decide), _, rfl, _, _, rfl, rfl, hm, ?_⟩
      exact fin _ _ _ (Int.emod_nonneg _ (by omega)) (Int.emod_lt_of_pos _ hm) hd h5 h6
end
end Hue
set_option Elab.async false
set_option linter.all false
set_option maxRecDepth 100000
set_option maxHeartbeats 4000000
namespace Hue
open PySem L2
structure Callee (P : Program) (w : World) (K : PySem.W.Frag) (mg : Str → Option Value) (base : Heap) (k : Nat) (x : Str) (ps : List Str) (sp : Sp) : Prop where
  ex : ∃ f fd, FnOk P w K mg base CX0 k f fd ps sp ∧ mg x = some (.ref f) ∧ PySem.W.keepIn K (.ref f) = true ∧ Binds K fd ps []
theorem pe_def {X : Cx} {k : Nat} {x : Str} {ps : List Str} {sp : Sp} {e : Expr} {es : List Expr} {t : TA} {p pos : Pos} (C : Callee X.prog X.w X.K X.mg X.base k x ps sp) (hr : Room k X.A) (hg : Gl X x) (ha : PA X (e :: es) t)
    (hdb : (x == ("__debug__" : Str)) = false := by decide) (he : starEach (e :: es) X.env = (false, eval e X.env) :: starEach es X.env := by rfl) (hpl : (backTo pos (starEach es X.env)).any (·.1) = false := by rfl) :
    PE X (.Call (.Name x p) (e :: es) [] pos) (tCall sp [] E0 t) := by
  obtain ⟨f, fd, F, hm, hk, hb⟩ := C.ex
  exact pe_call F hr hg hm hk hb .nil pass0 ha hdb he hpl
def tTo (S S' : St → Hp → Prop) : TS := fun D σ H => S σ H ∧ ∀ σ' H', S' σ' H' → D.nx σ' H'
def KeepT (H H' : Hp) : Prop := ∀ b xs, H b = some (.tup xs) → H' b = some (.tup xs)
theorem KeepT.refl (H : Hp) : KeepT H H := fun _ _ h => h
theorem KeepT.trans {H H1 H2 : Hp} (a : KeepT H H1) (b : KeepT H1 H2) : KeepT H H2 := fun c xs h => b c xs (a c xs h)
theorem KeepT.new {H : Hp} {p : Addr} {o : HO} (n : H p = none) : KeepT H (upd H p o) := fun c xs h => by rw [upd_ne (ne_of_none h n)]; exact h
theorem KeepT.lst {H : Hp} {l : Addr} {xs : List V} {o : HO} (n : H l = some (.lst xs)) : KeepT H (upd H l o) := fun c ys h => by rw [upd_ne (ne_of h n (by intro z; cases z))]; exact h
theorem Ext.keepT {t : Addr} {H H' : Hp} (a : Ext t H H') (T : Tape H t) : KeepT H H' := fun b xs h => by
  obtain ⟨d, e, ht, _⟩ := T
  exact a b _ (ne_of h ht (by intro z; cases z)) h
theorem Ext.own {t l : Addr} {H0 H : Hp} {o : HO} (a : Ext t H0 H) (n : H0 l = none) : Ext t H0 (upd H l o) := fun b u ne h => by
  rw [upd_ne (ne_of_none h n)]; exact a b u ne h
theorem Tape.upd {t l : Addr} {H : Hp} {o : HO} (h : Tape H t) (ne : t ≠ l) : Tape (upd H l o) t := h.keep fun u q => by rw [upd_ne ne]; exact q
def PairAt (H : Hp) (m : Int) (v : V) : Prop := ∃ q i j, v = .ref q ∧ H q = some (.tup [.int i, .int j]) ∧ 0 ≤ i ∧ i < m ∧ 0 ≤ j ∧ j < m ∧ i ≠ j
def Pairs (H : Hp) (m : Int) (vs : List V) : Prop := ∀ v ∈ vs, PairAt H m v
theorem PairAt.mono {H H' : Hp} {m : Int} {v : V} (h : PairAt H m v) (k : KeepT H H') : PairAt H' m v := let ⟨q, i, j, e, h, r⟩ := h; ⟨q, i, j, e, k _ _ h, r⟩
theorem Pairs.mono {H H' : Hp} {m : Int} {vs : List V} (h : Pairs H m vs) (k : KeepT H H') : Pairs H' m vs := fun v hv => (h v hv).mono k
theorem Pairs.nil {H : Hp} {m : Int} : Pairs H m [] := fun _ h => nomatch h
theorem Pairs.app {H : Hp} {m : Int} {xs ys : List V} (a : Pairs H m xs) (b : Pairs H m ys) : Pairs H m (xs ++ ys) := fun v hv => (List.mem_append.mp hv).elim (a v) (b v)
theorem Pairs.one {H : Hp} {m : Int} {v : V} (a : PairAt H m v) : Pairs H m [v] := fun u hu => by rw [List.mem_singleton.mp hu]; exact a
theorem pairAt_new {H : Hp} {m i j : Int} {p : Addr} (h1 : 0 ≤ i) (h2 : i < m) (h3 : 0 ≤ j) (h4 : j < m) (h5 : i ≠ j) : PairAt (upd H p (.tup [.int i, .int j])) m (.ref p) := ⟨p, i, j, rfl, upd_same, h1, h2, h3, h4, h5⟩
structure FS (t : Addr) (H0 H : Hp) (l : Addr) (ps : List V) (m : Int) : Prop where
  tape : Tape H t
  ext : Ext t H0 H
  fr : H0 l = none
  ne : t ≠ l
  at' : H l = some (.lst ps)
  prs : Pairs H m ps
section
variable {t l : Addr} {H0 H H' : Hp} {ps : List V} {m : Int}
theorem FS.draw (h : FS t H0 H l ps m) (T : Tape H' t) (e : Ext t H H') : FS t H0 H' l ps m := ⟨T, h.ext.trans e, h.fr, h.ne, e _ _ h.ne.symm h.at', h.prs.mono (e.keepT h.tape)⟩
theorem FS.new {p : Addr} {o : HO} (h : FS t H0 H l ps m) (n : H p = none) : FS t H0 (upd H p o) l ps m :=
  ⟨h.tape.new n, h.ext.new n, h.fr, h.ne, by rw [upd_ne (ne_of_none h.at' n)]; exact h.at', h.prs.mono (.new n)⟩
theorem FS.set {qs : List V} (h : FS t H0 H l ps m) (q : Pairs H m qs) : FS t H0 (upd H l (.lst qs)) l qs m :=
  ⟨h.tape.upd h.ne, h.ext.own h.fr, h.fr, h.ne, upd_same, q.mono (.lst h.at')⟩
theorem FS.lay {p : Addr} {qs : List V} (T : Tape H t) (e : Ext t H0 H) (T0 : Tape H0 t) (n : H p = none) (q : Pairs H m qs) : FS t H0 (upd H p (.lst qs)) p qs m :=
  ⟨T.new n, e.new n, e.free n (T.ne n), (T.ne n).symm, upd_same, q.mono (.new n)⟩
end
theorem FS.oth {t l D : Addr} {H0 H : Hp} {ps xs : List V} {m : Int} {o : HO} (h : FS t H0 H l ps m) (hD : H D = some (.lst xs)) (n0 : H0 D = none) (hne : l ≠ D) (tne : t ≠ D) : FS t H0 (upd H D o) l ps m :=
  ⟨h.tape.upd tne, h.ext.own n0, h.fr, h.ne, by rw [upd_ne hne]; exact h.at', h.prs.mono (.lst hD)⟩
theorem FS.none {t l : Addr} {H0 H : Hp} {m m' : Int} (h : FS t H0 H l [] m) : FS t H0 H l [] m' := ⟨h.tape, h.ext, h.fr, h.ne, h.at', .nil⟩
theorem mod2 {x m : Int} (h0 : 0 ≤ x) (h1 : x < 2 * m) : x % m = if x < m then x else x - m := by
  split
  · exact Int.emod_eq_of_lt h0 (by assumption)
  · have e : x = (x - m) + m * 1 := by omega
    have : x % m = (x - m) % m := by
      conv => lhs; rw [e]
      rw [Int.add_mul_emod_self_left]
    rw [this]
    exact Int.emod_eq_of_lt (by omega) (by omega)
theorem nd_km : ((["_law_k"] : List Str) ++ (["_law_many"] : List Str)).Nodup := by decide +kernel
theorem nd_k : ((["_law_k"] : List Str) ++ ([] : List Str)).Nodup := by decide +kernel
theorem nd_jk : ((["_law_j"] : List Str) ++ (["_law_k"] : List Str)).Nodup := by decide +kernel
theorem nd_jkt : ((["_law_j"] : List Str) ++ (["_law_k", "_law_tape_here"] : List Str)).Nodup := by decide +kernel
theorem eqI {a b : Int} (h : decide (V.int a = V.int b) = true) : a = b := by
  have := of_decide_eq_true h
  injection this
theorem neI {a b : Int} (h : ¬ decide (V.int a = V.int b) = true) : a ≠ b := fun e => h (by rw [e]; simp)
theorem sl3 {n : Nat} (h : n ≤ 1000) : n ≤ sizeLine := Nat.le_of_lt (small1000 h)
theorem compT {i : Nat} {te : TE} {D : Addr} {x : V} {σ' : St} {ys : List V} {N : List V → Hp → Prop} {H : Hp} (h : te (σ'.set i (some x)) H fun v H4 => H4 D = some (.lst ys) ∧ ys.length < sizeLine ∧ N (ys ++ [v]) (upd H4 D (.lst (ys ++ [v])))) :
    CompTurn (gName i) (fun _ H Q => Q true H) te D σ' ys N x H := by
  unfold CompTurn gName
  simp only [if_true]
  exact h
def spPairs : Sp := fun vs H Q _ => ∃ (t : Addr) (g : Bool), vs = [.ref t, .bl g] ∧ Tape H t ∧
  ∀ (p l : Addr) (m : Int) (ps : List V) (H' : Hp), H p = none → H' p = some (.tup [.int m, .ref l]) → FS t H H' l ps m → ps.length ≤ 58 → 0 ≤ m → m ≤ 12 → Q (.ref p) H'
section
variable {P : Program} {w : World} {K : PySem.W.Frag} {mg : Str → Option Value} {base : Heap}
abbrev CDraw (P : Program) (w : World) (K : PySem.W.Frag) (mg : Str → Option Value) (base : Heap) : Prop := Callee P w K mg base 1 "_law_draw" ["_law_tape_here", "_law_many"] spDraw
theorem scPairs : FnScope ["_law_tape_here", "_law_great", "_law_way", "_law_many", "_law_found", "_law_turn", "_law_one", "_law_k", "_law_sides"] ["_law_tape_here", "_law_great"] (defScope sPairs) := ⟨rfl, rfl, rfl, by decide +kernel, rfl, by decide +kernel, by decide +kernel⟩
def PSt (t : Addr) (g : Bool) (H0 : Hp) (j : Int) (σ : St) (H : Hp) : Prop := ∃ (way m : Int) (l : Addr) (ps : List V) (o5 o6 o7 o8 : Option V),
  σ = [some (.ref t), some (.bl g), some (.int way), some (.int m), some (.ref l), o5, o6, o7, o8] ∧ FS t H0 H l ps m ∧ ps.length ≤ 58 ∧ 0 ≤ m ∧ m ≤ 12 ∧ 0 ≤ way ∧ way < 8 ∧ (j ≤ way → ps = [])
theorem ok_pairs {f : Addr} {fd : FuncData} (F : Fun K "_law_pairs_by" "_law_pairs_by" sPairs f fd) (T : Txt K mg) (CD : CDraw P w K mg base) : FnOk P w K mg base CX0 2 f fd ["_law_tape_here", "_law_great"] spPairs := by
  refine F.ok scPairs (fun vs H Q E h => ?_) (fun cdv A outer s H vs Q E hr h => ?_)
  · obtain ⟨t, g, rfl, _⟩ := h; rfl
  · obtain ⟨t, g, rfl, T0, q⟩ := h
    refine ⟨_, pss_cons (ps_set (i := 2) scPairs.nd rfl (Or.inl rfl) (pe_def CD hr (by rfl) (pa_cons (pv 0) (pa_cons pe_int pa_nil))))
      (pss_cons (ps_set (i := 3) scPairs.nd rfl (Or.inr rfl) (pe_ix ix_list (pe_lst (pa_cons (pe_def CD hr (by rfl) (pa_cons (pv 0) (pa_cons pe_int pa_nil))) (pa_cons (pe_op op_add pe_int (pe_def CD hr (by rfl) (pa_cons (pv 0) (pa_cons pe_int pa_nil)))) pa_nil)))
        (pe_callTy call_int1 (by rfl) T.int b_int (pa_cons (pv 1) pa_nil)) (fun _ _ => rfl)))
      (pss_cons (ps_set (i := 4) scPairs.nd rfl (Or.inl rfl) (pe_lst pa_nil))
      (pss_cons (ps_via (tTo (PSt t g H 0) (PSt t g H 3)) (ps_if (pw_and (pt_cmpR op_lt (pv 2) pe_int (nomark _)) (pw_and1 (pt_cmpR op_gt (pv 3) pe_int (nomark _)))).pt
          (pss_one (ps_for PassesOwn.never rfl (pi_range1 (by rfl) T.range (pa_cons (pe_def CD hr (by rfl) (pa_cons (pv 0) (pa_cons (pe_op op_add (pe_op op_mul pe_int (pv 3)) pe_int) pa_nil))) pa_nil)) (pg_name (i := 5) scPairs.nd rfl (Or.inl rfl))
            (pss_cons (ps_set (i := 6) scPairs.nd rfl (Or.inl rfl) (pe_def CD hr (by rfl) (pa_cons (pv 0) (pa_cons (pv 3) pa_nil))))
            (pss_one (ps_expr (pe_bm PySem.F.plainAttrs_list PySem.F.slot_list_append PySem.F.type_list_append mt_append (pv 4) (pa_cons (pe_tup (pa_cons (pv 6) (pa_cons (pe_op op_mod (pe_op op_add (pe_op op_add (pv 6) pe_int) (pe_def CD hr (by rfl) (pa_cons (pv 0) (pa_cons (pe_op op_sub (pv 3) pe_int) pa_nil)))) (pv 3)) pa_nil))) pa_nil))))))) pss_nil) ?i1)
      (pss_cons (ps_via (tTo (PSt t g H 3) (PSt t g H 4)) (ps_if (pw_and (pt_cmpR op_eq (pv 2) pe_int (nomark _)) (pw_and1 (pt_cmpR op_gt (pv 3) pe_int (nomark _)))).pt
          (pss_one (ps_set (i := 4) scPairs.nd rfl (Or.inl rfl) (pe_op op_cat (pe_comp ["_law_k"] ["_law_many"] [3] (pi_range1 (by rfl) T.range (pa_cons (pv 3) pa_nil)) (fun _ _ _ _ _ => pg_name (i := 0) nd_km rfl (Or.inl rfl)) (fun _ _ _ _ _ => pifs_nil)
              (fun _ _ _ _ _ => pe_tup (pa_cons (pv 0) (pa_cons (pe_op op_mod (pe_op op_add (pv 0) pe_int) (pv 1)) pa_nil))))
            (pe_lst (pa_cons (pe_tup (pa_cons pe_int (pa_cons (pe_op op_add (pe_def CD hr (by rfl) (pa_cons (pv 0) (pa_cons (pe_op op_sub (pv 3) pe_int) pa_nil))) pe_int) pa_nil))) pa_nil))))) pss_nil) ?i2)
      (pss_cons (ps_via (tTo (PSt t g H 4) (PSt t g H 5)) (ps_if (pw_and (pt_cmpR op_eq (pv 2) pe_int (nomark _)) (pw_and1 (pt_cmpR op_gt (pv 3) pe_int (nomark _)))).pt
          (pss_one (ps_setComp (i := 4) ["_law_k"] [] [] scPairs.nd rfl rfl (pi_range2 (by rfl) T.range (pa_cons pe_int (pa_cons (pv 3) pa_nil))) (fun _ _ _ _ _ => pg_name (i := 0) nd_k rfl (Or.inl rfl)) (fun _ _ _ _ _ => pifs_nil)
              (fun _ _ _ _ _ => pe_tup (pa_cons pe_int (pa_cons (pv 0) pa_nil))))) pss_nil) ?i3)
      (pss_cons (ps_via (tTo (PSt t g H 5) (PSt t g H 6)) (ps_if (pt_cmpR op_eq (pv 2) pe_int (nomark _))
          (pss_cons (ps_set (i := 3) scPairs.nd rfl (Or.inr rfl) (pe_callB (call_min2 rfl) (by rfl) T.min b_min (pa_cons (pv 3) (pa_cons (pe_op op_add pe_int (pe_callTy call_int1 (by rfl) T.int b_int (pa_cons (pv 1) pa_nil))) pa_nil))))
          (pss_one (ps_for PassesOwn.never rfl (pi_range1 (by rfl) T.range (pa_cons (pv 3) pa_nil)) (pg_name (i := 7) scPairs.nd rfl (Or.inr rfl))
            (pss_one (ps_expr (pe_bm PySem.F.plainAttrs_list PySem.F.slot_list_extend PySem.F.type_list_extend mt_extend (pv 4) (pa_cons (pe_comp ["_law_j"] ["_law_k"] [7] (pi_range1 (by rfl) T.range (pa_cons (pv 7) pa_nil)) (fun _ _ _ _ _ => pg_name (i := 0) nd_jk rfl (Or.inl rfl)) (fun _ _ _ _ _ => pifs_nil)
              (fun _ _ _ _ _ => pe_tup (pa_cons (pv 0) (pa_cons (pv 1) pa_nil)))) pa_nil))))))) pss_nil) ?i4)
      (pss_cons (ps_via (tTo (PSt t g H 6) (PSt t g H 7)) (ps_if (pt_cmpR op_eq (pv 2) pe_int (nomark _))
          (pss_cons (ps_set (i := 8) scPairs.nd rfl (Or.inl rfl) (pe_op op_add pe_int (pe_op op_fdiv (pv 3) pe_int)))
          (pss_one (ps_for PassesOwn.never rfl (pi_range1 (by rfl) T.range (pa_cons (pv 8) pa_nil)) (pg_name (i := 7) scPairs.nd rfl (Or.inr rfl))
            (pss_one (ps_expr (pe_bm PySem.F.plainAttrs_list PySem.F.slot_list_extend PySem.F.type_list_extend mt_extend (pv 4) (pa_cons (pe_comp ["_law_j"] ["_law_k", "_law_tape_here"] [7, 0] (pi_range2 (by rfl) T.range (pa_cons (pv 8) (pa_cons (pv 3) pa_nil))) (fun _ _ _ _ _ => pg_name (i := 0) nd_jkt rfl (Or.inl rfl))
              (fun _ _ _ _ _ => pifs_one (pt_cmpR op_gt (pe_def CD hr (by rfl) (pa_cons (pv 2) (pa_cons pe_int pa_nil))) pe_int (nomark _)))
              (fun _ _ _ _ _ => pe_tup (pa_cons (pv 1) (pa_cons (pv 0) pa_nil)))) pa_nil))))))) pss_nil) ?i5)
      (pss_cons (ps_via (tTo (PSt t g H 7) (PSt t g H 8)) (ps_if (pt_cmpR op_eq (pv 2) pe_int (nomark _))
          (pss_cons (ps_set (i := 3) scPairs.nd rfl (Or.inr rfl) (pe_op op_add pe_int (pe_op op_fdiv (pv 3) pe_int)))
          (pss_one (ps_for PassesOwn.never rfl (pi_range1 (by rfl) T.range (pa_cons pe_int pa_nil)) (pg_name (i := 7) scPairs.nd rfl (Or.inr rfl))
            (pss_one (ps_expr (pe_bm PySem.F.plainAttrs_list PySem.F.slot_list_extend PySem.F.type_list_extend mt_extend (pv 4) (pa_cons (pe_op op_rep (pe_lst (pa_cons (pe_tup (pa_cons (pv 7) (pa_cons (pe_op op_mod (pe_op op_add (pv 7) pe_int) pe_int) pa_nil))) pa_nil))
              (pe_op op_add pe_int (pe_def CD hr (by rfl) (pa_cons (pv 0) (pa_cons pe_int pa_nil))))) pa_nil))))))) pss_nil) ?i6)
      (pss_one (ps_ret (pe_tup (pa_cons (pv 3) (pa_cons (pv 4) pa_nil))))))))))))), ?_⟩
    case i1 =>
      rintro D σ Hx ⟨⟨way, m, l, ps, o5, o6, o7, o8, rfl, fs, hl, hm0, hm1, hw0, hw1, hj⟩, kn⟩
      obtain rfl : ps = [] := hj hw0
      have out : D.nx [some (.ref t), some (.bl g), some (.int way), some (.int m), some (.ref l), o5, o6, o7, o8] Hx := kn _ _ ⟨way, m, l, [], _, _, _, _, rfl, fs, hl, hm0, hm1, hw0, hw1, fun _ => rfl⟩
      refine ⟨_, rfl, _, _, rfl, rfl, _, rfl, ?_⟩
      refine ite2 (fun h1 => ?_) (fun h1 => iteF out)
      have h1 := of_decide_eq_true h1
      refine ⟨_, rfl, _, _, rfl, rfl, _, rfl, ?_⟩
      refine ite2 (fun h2 => ?_) (fun h2 => out)
      have h2 := of_decide_eq_true h2
      refine ⟨_, rfl, _, rfl, _, _, rfl, rfl, .inl ⟨by decide, by decide⟩, _, _, rfl, rfl, t, _, rfl, fs.tape, by omega, by omega, fun r H1 hr0 hr1 T1 E1 => ?_⟩
      refine ⟨r, rfl, by omega, by omega, for_range (lo := 0) (n := r.toNat) (fun i σ H2 => ∃ (ps' : List V) (o5 o6 : Option V), σ = [some (.ref t), some (.bl g), some (.int way), some (.int m), some (.ref l), o5, o6, o7, o8] ∧ FS t H H2 l ps' m ∧ ps'.length ≤ i)
        ⟨[], o5, o6, rfl, fs.draw T1 E1, Nat.le_refl _⟩ ?_ ?_⟩
      · rintro i σ H2 hi ⟨ps', o5', o6', rfl, fs', hl'⟩
        refine ⟨_, rfl, _, rfl, t, _, rfl, fs'.tape, by omega, by omega, fun a H3 ha0 ha1 T3 E3 => ?_⟩
        have fs3 := fs'.draw T3 E3
        refine ⟨_, rfl, .inl ⟨rfl, _, SqL.of fs3.at'⟩, _, rfl, _, rfl, _, _, rfl, rfl, _, rfl, _, rfl, _, _, rfl, rfl, t, _, rfl, fs3.tape, by omega, by omega, fun b H4 hb0 hb1 T4 E4 => ?_⟩
        have fs4 := fs3.draw T4 E4
        refine ⟨_, _, rfl, rfl, _, rfl, _, _, rfl, rfl, (show (0 : Int) < m by omega), by show 2 ≤ sizeLine; decide, fun p hp => ?_⟩
        have fs5 := fs4.new (o := .tup [.int a, .int ((a + 1 + b) % m)]) hp
        have e := mod2 (x := a + 1 + b) (m := m) (by omega) (by omega)
        have pr : PairAt (upd H4 p (.tup [.int a, .int ((a + 1 + b) % m)])) m (.ref p) := pairAt_new ha0 ha1 (by rw [e]; split <;> omega) (by rw [e]; split <;> omega) (by rw [e]; split <;> omega)
        refine ⟨l, ps', _, rfl, rfl, fs5.at', small1000 (by omega), ?_⟩
        exact ⟨ps' ++ [.ref p], _, _, rfl, fs5.set (fs5.prs.app (.one pr)), by rw [List.length_append, List.length_singleton]; omega⟩
      · rintro σ H2 ⟨ps', o5', o6', rfl, fs', hl'⟩
        exact kn _ _ ⟨way, m, l, ps', _, _, _, _, rfl, fs', by omega, hm0, hm1, hw0, hw1, fun h => absurd h (by omega)⟩
    case i2 =>
      rintro D σ Hx ⟨⟨way, m, l, ps, o5, o6, o7, o8, rfl, fs, hl, hm0, hm1, hw0, hw1, hj⟩, kn⟩
      have out : ¬ way = 3 ∨ ps = [] → D.nx [some (.ref t), some (.bl g), some (.int way), some (.int m), some (.ref l), o5, o6, o7, o8] Hx := fun hn => kn _ _ ⟨way, m, l, ps, _, _, _, _, rfl, fs, hl, hm0, hm1, hw0, hw1, fun h => by
        rcases hn with hn | hn
        · exact hj (by omega)
        · exact hn⟩
      refine ⟨_, rfl, rfl, _, rfl, ?_⟩
      refine ite2 (fun h1 => ?_) (fun h1 => iteF (out (.inl (neI h1))))
      have h1 := eqI h1
      refine ⟨_, rfl, _, _, rfl, rfl, _, rfl, ?_⟩
      refine ite2 (fun h2 => ?_) (fun h2 => out (.inr (hj (by omega))))
      have h2 := of_decide_eq_true h2
      refine ⟨_, rfl, m, rfl, by omega, by omega, fun Dl hD => comp_range (lo := 0) (n := m.toNat) (fun i ys H2 => FS t H H2 Dl ys m ∧ ys.length ≤ i) ⟨FS.lay fs.tape fs.ext T0 hD .nil, Nat.le_refl _⟩ ?_ ?_⟩
      · rintro i ys H2 hi ⟨fs', hl'⟩
        refine compT ?_
        refine ⟨_, rfl, _, rfl, _, _, rfl, rfl, _, rfl, _, _, rfl, rfl, (show (0 : Int) < m by omega), by show 2 ≤ sizeLine; decide, fun p hp => ?_⟩
        have fs5 := fs'.new (o := .tup [.int (0 + (i : Int)), .int ((0 + (i : Int) + 1) % m)]) hp
        have e := mod2 (x := 0 + (i : Int) + 1) (m := m) (by omega) (by omega)
        have pr : PairAt (upd H2 p (.tup [.int (0 + (i : Int)), .int ((0 + (i : Int) + 1) % m)])) m (.ref p) := pairAt_new (by omega) (by omega) (by rw [e]; split <;> omega) (by rw [e]; split <;> omega) (by rw [e]; split <;> omega)
        exact ⟨fs5.at', small1000 (by omega), fs5.set (fs5.prs.app (.one pr)), by rw [List.length_append, List.length_singleton]; omega⟩
      · rintro ys H2 ⟨fs', hl'⟩
        refine ⟨_, rfl, _, rfl, _, _, rfl, rfl, t, _, rfl, fs'.tape, by omega, by omega, fun b H4 hb0 hb1 T4 E4 => ?_⟩
        have fs4 := fs'.draw T4 E4
        refine ⟨_, _, rfl, rfl, by show 2 ≤ sizeLine; decide, fun p hp => ?_⟩
        have fs5 := fs4.new (o := .tup [.int 0, .int (b + 1)]) hp
        have pr : PairAt (upd H4 p (.tup [.int 0, .int (b + 1)])) m (.ref p) := pairAt_new (by omega) (by omega) (by omega) (by omega) (by omega)
        refine ⟨by show 1 ≤ sizeLine; decide, fun l2 hl2 => ?_⟩
        have fs6 := fs5.new (o := .lst [.ref p]) hl2
        refine ⟨Dl, l2, ys, [.ref p], rfl, rfl, fs6.at', upd_same, sl3 (by show ys.length + 1 ≤ 1000; omega), fun q2 hq2 => ?_⟩
        refine kn _ _ ⟨way, m, q2, ys ++ [.ref p], _, _, _, _, rfl, FS.lay fs6.tape fs6.ext T0 hq2 (fs6.prs.app (.one (pr.mono (.new hl2)))), by rw [List.length_append, List.length_singleton]; omega, hm0, hm1, hw0, hw1, fun h => absurd h (by omega)⟩
    case i3 =>
      rintro D σ Hx ⟨⟨way, m, l, ps, o5, o6, o7, o8, rfl, fs, hl, hm0, hm1, hw0, hw1, hj⟩, kn⟩
      have out : ¬ way = 4 ∨ ps = [] → D.nx [some (.ref t), some (.bl g), some (.int way), some (.int m), some (.ref l), o5, o6, o7, o8] Hx := fun hn => kn _ _ ⟨way, m, l, ps, _, _, _, _, rfl, fs, hl, hm0, hm1, hw0, hw1, fun h => by
        rcases hn with hn | hn
        · exact hj (by omega)
        · exact hn⟩
      refine ⟨_, rfl, rfl, _, rfl, ?_⟩
      refine ite2 (fun h1 => ?_) (fun h1 => iteF (out (.inl (neI h1))))
      have h1 := eqI h1
      refine ⟨_, rfl, _, _, rfl, rfl, _, rfl, ?_⟩
      refine ite2 (fun h2 => ?_) (fun h2 => out (.inr (hj (by omega))))
      have h2 := of_decide_eq_true h2
      refine ⟨_, rfl, 1, m, rfl, ⟨by decide, by decide, by omega, by omega⟩, fun Dl hD => comp_range (lo := 1) (n := (m - 1).toNat) (fun i ys H2 => FS t H H2 Dl ys m ∧ ys.length ≤ i) ⟨FS.lay fs.tape fs.ext T0 hD .nil, Nat.le_refl _⟩ ?_ ?_⟩
      · rintro i ys H2 hi ⟨fs', hl'⟩
        refine compT ?_
        refine ⟨_, rfl, by show 2 ≤ sizeLine; decide, fun p hp => ?_⟩
        have fs5 := fs'.new (o := .tup [.int 0, .int (1 + (i : Int))]) hp
        have pr : PairAt (upd H2 p (.tup [.int 0, .int (1 + (i : Int))])) m (.ref p) := pairAt_new (by omega) (by omega) (by omega) (by omega) (by omega)
        exact ⟨fs5.at', small1000 (by omega), fs5.set (fs5.prs.app (.one pr)), by rw [List.length_append, List.length_singleton]; omega⟩
      · rintro ys H2 ⟨fs', hl'⟩
        exact kn _ _ ⟨way, m, Dl, ys, _, _, _, _, rfl, fs', by omega, hm0, hm1, hw0, hw1, fun h => absurd h (by omega)⟩
    case i4 =>
      rintro D σ Hx ⟨⟨way, m, l, ps, o5, o6, o7, o8, rfl, fs, hl, hm0, hm1, hw0, hw1, hj⟩, kn⟩
      refine ⟨_, rfl, rfl, _, rfl, ?_⟩
      refine ite2 (fun h1 => ?_) (fun h1 => kn _ _ ⟨way, m, l, ps, _, _, _, _, rfl, fs, hl, hm0, hm1, hw0, hw1, fun h => hj (by have := neI h1; omega)⟩)
      have h1 := eqI h1
      obtain rfl : ps = [] := hj (by omega)
      refine ⟨_, rfl, _, rfl, .inr ⟨g, rfl, _, _, rfl, rfl, m, _, rfl, ?_⟩⟩
      obtain ⟨m', em, hm'0, hm'1⟩ : ∃ m' : Int, (if (5 + if g = true then (1 : Int) else 0) < m then (5 + if g = true then (1 : Int) else 0) else m) = m' ∧ 0 ≤ m' ∧ m' ≤ 6 := ⟨_, rfl, by split <;> (try split) <;> omega, by split <;> (try split) <;> omega⟩
      rw [em]
      refine ⟨_, rfl, m', rfl, by omega, by omega, for_range (lo := 0) (n := m'.toNat) (fun i σ H2 => ∃ (ps' : List V) (o7 : Option V), σ = [some (.ref t), some (.bl g), some (.int way), some (.int m'), some (.ref l), o5, o6, o7, o8] ∧ FS t H H2 l ps' m' ∧ ps'.length ≤ 6 * i)
        ⟨[], o7, rfl, fs.none, Nat.zero_le _⟩ ?_ ?_⟩
      · rintro i σ H2 hi ⟨ps', o7', rfl, fs', hl'⟩
        refine ⟨_, rfl, .inl ⟨rfl, _, SqL.of fs'.at'⟩, _, rfl, 0 + (i : Int), rfl, by omega, by omega, fun Dl hD => comp_range (lo := 0) (n := (0 + (i : Int)).toNat) (fun k ys H3 => FS t H H3 l ps' m' ∧ FS t H H3 Dl ys m' ∧ ys.length ≤ k ∧ l ≠ Dl)
          ⟨fs'.new hD, FS.lay fs'.tape fs'.ext T0 hD .nil, Nat.le_refl _, ne_of_none fs'.at' hD⟩ ?_ ?_⟩
        · rintro k ys H3 hk ⟨fl, fd', hly, hne⟩
          refine compT ?_
          refine ⟨_, rfl, _, rfl, by show 2 ≤ sizeLine; decide, fun p hp => ?_⟩
          have f5 := fd'.new (o := .tup [.int (0 + (k : Int)), .int (0 + (i : Int))]) hp
          have g5 := fl.new (o := .tup [.int (0 + (k : Int)), .int (0 + (i : Int))]) hp
          have pr : PairAt (upd H3 p (.tup [.int (0 + (k : Int)), .int (0 + (i : Int))])) m' (.ref p) := pairAt_new (by omega) (by omega) (by omega) (by omega) (by omega)
          exact ⟨f5.at', small1000 (by omega), g5.oth f5.at' f5.fr hne f5.ne, f5.set (f5.prs.app (.one pr)), by rw [List.length_append, List.length_singleton]; omega, hne⟩
        · rintro ys H3 ⟨fl, fd', hly, hne⟩
          refine ⟨l, Dl, ps', ys, rfl, rfl, fl.at', fd'.at', sl3 (by omega), ?_⟩
          exact ⟨ps' ++ ys, _, rfl, fl.set (fl.prs.app fd'.prs), by rw [List.length_append]; omega⟩
      · rintro σ H2 ⟨ps', o7', rfl, fs', hl'⟩
        exact kn _ _ ⟨way, m', l, ps', _, _, _, _, rfl, fs', by omega, hm'0, by omega, hw0, hw1, fun h => absurd h (by omega)⟩
    case i5 =>
      rintro D σ Hx ⟨⟨way, m, l, ps, o5, o6, o7, o8, rfl, fs, hl, hm0, hm1, hw0, hw1, hj⟩, kn⟩
      refine ⟨_, rfl, rfl, _, rfl, ?_⟩
      refine ite2 (fun h1 => ?_) (fun h1 => kn _ _ ⟨way, m, l, ps, _, _, _, _, rfl, fs, hl, hm0, hm1, hw0, hw1, fun h => hj (by have := neI h1; omega)⟩)
      have h1 := eqI h1
      obtain rfl : ps = [] := hj (by omega)
      refine ⟨_, rfl, _, _, rfl, rfl, ⟨by decide, by decide⟩, _, _, rfl, rfl, ?_⟩
      obtain ⟨sd, es, hs0, hs1⟩ : ∃ sd : Int, 1 + m / 2 = sd ∧ 1 ≤ sd ∧ sd ≤ 7 := ⟨_, rfl, by omega, by omega⟩
      refine ⟨_, rfl, sd, congrArg (fun z => [V.int z]) es, by omega, by omega, for_range (lo := 0) (n := sd.toNat) (fun i σ H2 => ∃ (ps' : List V) (o7 : Option V), σ = [some (.ref t), some (.bl g), some (.int way), some (.int m), some (.ref l), o5, o6, o7, some (.int sd)] ∧ FS t H H2 l ps' m ∧ ps'.length ≤ 5 * i)
        ⟨[], o7, by rw [← es]; rfl, fs, Nat.zero_le _⟩ ?_ ?_⟩
      · rintro i σ H2 hi ⟨ps', o7', rfl, fs', hl'⟩
        refine ⟨_, rfl, .inl ⟨rfl, _, SqL.of fs'.at'⟩, _, rfl, _, rfl, sd, m, rfl, ⟨by omega, by omega, by omega, by omega⟩, fun Dl hD => comp_range (lo := sd) (n := (m - sd).toNat) (fun k ys H3 => FS t H H3 l ps' m ∧ FS t H H3 Dl ys m ∧ ys.length ≤ k ∧ l ≠ Dl)
          ⟨fs'.new hD, FS.lay fs'.tape fs'.ext T0 hD .nil, Nat.le_refl _, ne_of_none fs'.at' hD⟩ ?_ ?_⟩
        · rintro k ys H3 hk ⟨fl, fd', hly, hne⟩
          refine ⟨_, rfl, t, 3, rfl, fd'.tape, by decide, by decide, fun r H4 hr0 hr1 T4 E4 => ?_⟩
          have fl4 := fl.draw T4 E4
          have fd4 := fd'.draw T4 E4
          refine ⟨_, _, rfl, rfl, _, rfl, ?_⟩
          refine ite2 (fun _ => ?_) (fun _ => ⟨fl4, fd4, by omega, hne⟩)
          refine ⟨_, rfl, _, rfl, by show 2 ≤ sizeLine; decide, fun p hp => ?_⟩
          have f5 := fd4.new (o := .tup [.int (0 + (i : Int)), .int (sd + (k : Int))]) hp
          have g5 := fl4.new (o := .tup [.int (0 + (i : Int)), .int (sd + (k : Int))]) hp
          have pr : PairAt (upd H4 p (.tup [.int (0 + (i : Int)), .int (sd + (k : Int))])) m (.ref p) := pairAt_new (by omega) (by omega) (by omega) (by omega) (by omega)
          exact ⟨f5.at', small1000 (by omega), g5.oth f5.at' f5.fr hne f5.ne, f5.set (f5.prs.app (.one pr)), by rw [List.length_append, List.length_singleton]; omega, hne⟩
        · rintro ys H3 ⟨fl, fd', hly, hne⟩
          refine ⟨l, Dl, ps', ys, rfl, rfl, fl.at', fd'.at', sl3 (by omega), ?_⟩
          exact ⟨ps' ++ ys, _, rfl, fl.set (fl.prs.app fd'.prs), by rw [List.length_append]; omega⟩
      · rintro σ H2 ⟨ps', o7', rfl, fs', hl'⟩
        exact kn _ _ ⟨way, m, l, ps', _, _, _, _, rfl, fs', by omega, hm0, hm1, hw0, hw1, fun h => absurd h (by omega)⟩
    case i6 =>
      rintro D σ Hx ⟨⟨way, m, l, ps, o5, o6, o7, o8, rfl, fs, hl, hm0, hm1, hw0, hw1, hj⟩, kn⟩
      refine ⟨_, rfl, rfl, _, rfl, ?_⟩
      refine ite2 (fun h1 => ?_) (fun h1 => kn _ _ ⟨way, m, l, ps, _, _, _, _, rfl, fs, hl, hm0, hm1, hw0, hw1, fun h => hj (by omega)⟩)
      have h1 := eqI h1
      obtain rfl : ps = [] := hj (by omega)
      refine ⟨_, rfl, _, _, rfl, rfl, ⟨by decide, by decide⟩, _, _, rfl, rfl, ?_⟩
      obtain ⟨m', em, hm'0, hm'1⟩ : ∃ m' : Int, 3 + m / 3 = m' ∧ 3 ≤ m' ∧ m' ≤ 12 := ⟨_, rfl, by omega, by omega⟩
      refine ⟨3, rfl, by decide, by decide, for_range (lo := 0) (n := 3) (fun i σ H2 => ∃ (ps' : List V) (o7 : Option V), σ = [some (.ref t), some (.bl g), some (.int way), some (.int m'), some (.ref l), o5, o6, o7, o8] ∧ FS t H H2 l ps' m' ∧ ps'.length ≤ 3 * i)
        ⟨[], o7, by rw [← em]; rfl, fs.none, Nat.zero_le _⟩ ?_ ?_⟩
      · rintro i σ H2 hi ⟨ps', o7', rfl, fs', hl'⟩
        refine ⟨_, rfl, .inl ⟨rfl, _, SqL.of fs'.at'⟩, _, rfl, _, rfl, _, _, rfl, rfl, _, _, rfl, rfl, (by show (0 : Int) < 3; decide), by show 2 ≤ sizeLine; decide, fun p hp => ?_⟩
        have f5 := fs'.new (o := .tup [.int (0 + (i : Int)), .int ((0 + (i : Int) + 1) % 3)]) hp
        have pr : PairAt (upd H2 p (.tup [.int (0 + (i : Int)), .int ((0 + (i : Int) + 1) % 3)])) m' (.ref p) := pairAt_new (by omega) (by omega) (by omega) (by omega) (by omega)
        refine ⟨by show 1 ≤ sizeLine; decide, fun l2 hl2 => ?_⟩
        have f6 := f5.new (o := .lst [.ref p]) hl2
        refine ⟨_, rfl, t, 3, rfl, f6.tape, by decide, by decide, fun b H4 hb0 hb1 T4 E4 => ?_⟩
        have f7 := f6.draw T4 E4
        have hl2' : H4 l2 = some (.lst [.ref p]) := E4 _ _ (f5.tape.ne hl2) upd_same
        have pr7 : PairAt H4 m' (.ref p) := (pr.mono (.new hl2)).mono (E4.keepT f6.tape)
        refine ⟨_, _, rfl, rfl, l2, 1 + b, [.ref p], rfl, rfl, hl2', by omega, by omega, sl3 (by show 1 * (1 + b).toNat ≤ 1000; omega), fun q2 hq2 => ?_⟩
        have f8 := f7.new (o := .lst (List.replicate (1 + b).toNat [V.ref p]).flatten) hq2
        have hlen : (List.replicate (1 + b).toNat [V.ref p]).flatten.length = (1 + b).toNat := by rw [len_rep]; simp
        refine ⟨l, q2, ps', _, rfl, rfl, f8.at', upd_same, sl3 (by rw [hlen]; omega), ?_⟩
        refine ⟨_, _, rfl, f8.set (f8.prs.app fun v hv => ?_), by rw [List.length_append, hlen]; omega⟩
        obtain ⟨x, hx, hvx⟩ := List.mem_flatten.mp hv
        have ex := List.eq_of_mem_replicate hx
        subst ex
        rw [List.mem_singleton.mp hvx]
        exact pr7.mono (.new hq2)
      · rintro σ H2 ⟨ps', o7', rfl, fs', hl'⟩
        exact kn _ _ ⟨way, m', l, ps', _, _, _, _, rfl, fs', by omega, by omega, hm'1, hw0, hw1, fun h => absurd h (by omega)⟩
    -- the whole
    refine ⟨_, rfl, t, 8, rfl, T0, by decide, by decide, fun way H1 hw0 hw1 T1 E1 => ?_⟩
    refine ⟨_, rfl, t, 7, rfl, T1, by decide, by decide, fun a H2 ha0 ha1 T2 E2 => ?_⟩
    refine ⟨_, rfl, t, 6, rfl, T2, by decide, by decide, fun b H3 hb0 hb1 T3 E3 => ?_⟩
    refine ⟨_, _, rfl, rfl, by show 2 ≤ sizeLine; decide, fun p hp => ?_⟩
    have E4 : Ext t H (upd H3 p (.lst [.int a, .int (7 + b)])) := ((E1.trans E2).trans E3).new hp
    have T4 : Tape (upd H3 p (.lst [.int a, .int (7 + b)])) t := T3.new hp
    refine ⟨_, rfl, .inr ⟨g, rfl, ?_⟩⟩
    obtain ⟨m, hm, hm0, hm1⟩ : ∃ m : Int, atI [V.int a, V.int (7 + b)] (if g = true then 1 else 0) = some (.int m) ∧ 0 ≤ m ∧ m ≤ 12 := by
      cases g
      · exact ⟨a, rfl, by omega, by omega⟩
      · exact ⟨7 + b, rfl, by omega, by omega⟩
    refine ⟨p, _, _, _, rfl, rfl, SqL.of upd_same, hm, ?_⟩
    refine ⟨by show 0 ≤ sizeLine; decide, fun l hl => ?_⟩
    refine ⟨⟨way, m, l, [], none, none, none, none, rfl, FS.lay T4 E4 T0 hl .nil, Nat.zero_le _, hm0, hm1, hw0, hw1, fun _ => rfl⟩, fun _ _ h => ⟨h, fun _ _ h => ⟨h, fun _ _ h => ⟨h, fun _ _ h => ⟨h, fun _ _ h => ⟨h, ?_⟩⟩⟩⟩⟩⟩
    rintro σ H5 ⟨way, m, l, ps, o5, o6, o7, o8, rfl, fs, hl, hm0, hm1, _, _, _⟩
    refine ⟨_, rfl, _, rfl, by show 2 ≤ sizeLine; decide, fun p5 hp5 => ?_⟩
    exact q p5 l m ps _ (fs.ext.free hp5 (fs.tape.ne hp5)) upd_same (fs.new hp5) hl hm0 hm1
end
end Hue
set_option Elab.async false
set_option linter.all false
set_option maxRecDepth 100000
set_option maxHeartbeats 4000000
namespace Hue
open PySem L2
section
variable {X : Cx} {K : PySem.W.Frag}
theorem ix_listK (hK : X.K = K) : IxR X (rIxL K) := hK ▸ ix_list
theorem ix_tupK (hK : X.K = K) : IxR X (rIxT K) := hK ▸ ix_tup
theorem call_lenK (hK : X.K = K) : CallR X (.builtin "len") (fun xs H Q => ∃ p ys, xs = [.ref p] ∧ (SqL K H p ys ∨ SqT K H p ys) ∧ Q (.int ys.length) H) := hK ▸ call_len_seq
theorem op_inK (hK : X.K = K) : OpR X (compareOp .In) (rIn K false) := hK ▸ op_in_seq
theorem op_notInK (hK : X.K = K) : OpR X (compareOp .NotIn) (rIn K true) := hK ▸ op_notIn_seq
end
abbrev sMeet : Stmt := top 7
abbrev sHueing : Stmt := top 8
structure GS (t : Addr) (H0 H : Hp) (l : Addr) (vs : List V) : Prop where
  tape : Tape H t
  ext : Ext t H0 H
  fr : H0 l = none
  ne : t ≠ l
  at' : H l = some (.lst vs)
section
variable {t l : Addr} {H0 H H' : Hp} {ps : List V}
theorem GS.draw (h : GS t H0 H l ps) (T : Tape H' t) (e : Ext t H H') : GS t H0 H' l ps := ⟨T, h.ext.trans e, h.fr, h.ne, e _ _ h.ne.symm h.at'⟩
theorem GS.new {p : Addr} {o : HO} (h : GS t H0 H l ps) (n : H p = none) : GS t H0 (upd H p o) l ps :=
  ⟨h.tape.new n, h.ext.new n, h.fr, h.ne, by rw [upd_ne (ne_of_none h.at' n)]; exact h.at'⟩
theorem GS.set {qs : List V} (h : GS t H0 H l ps) : GS t H0 (upd H l (.lst qs)) l qs := ⟨h.tape.upd h.ne, h.ext.own h.fr, h.fr, h.ne, upd_same⟩
theorem GS.oth {D : Addr} {xs : List V} {o : HO} (h : GS t H0 H l ps) (n0 : H0 D = none) (hne : l ≠ D) (tne : t ≠ D) : GS t H0 (upd H D o) l ps :=
  ⟨h.tape.upd tne, h.ext.own n0, h.fr, h.ne, by rw [upd_ne hne]; exact h.at'⟩
theorem GS.lay {p : Addr} {qs : List V} (T : Tape H t) (e : Ext t H0 H) (n : H p = none) : GS t H0 (upd H p (.lst qs)) p qs := ⟨T.new n, e.new n, e.free n (T.ne n), (T.ne n).symm, upd_same⟩
theorem FS.up {H1 : Hp} {m : Int} (h : FS t H H' l ps m) (e : Ext t H0 H) : FS t H0 H' l ps m := ⟨h.tape, e.trans h.ext, e.free h.fr h.ne.symm, h.ne, h.at', h.prs⟩
end
def TieAt (H : Hp) (m : Int) (v : V) : Prop := ∃ q i j, v = .ref q ∧ H q = some (.tup [.int i, .int j]) ∧ 0 ≤ i ∧ i < j ∧ j < m
def Ties (H : Hp) (m : Int) (vs : List V) : Prop := ∀ v ∈ vs, TieAt H m v
theorem TieAt.mono {H H' : Hp} {m : Int} {v : V} (h : TieAt H m v) (k : KeepT H H') : TieAt H' m v := let ⟨q, i, j, e, h, r⟩ := h; ⟨q, i, j, e, k _ _ h, r⟩
theorem Ties.mono {H H' : Hp} {m : Int} {vs : List V} (h : Ties H m vs) (k : KeepT H H') : Ties H' m vs := fun v hv => (h v hv).mono k
def WebAt (H : Hp) (w : Addr) (m : Int) (vs : List V) : Prop := ∃ ts, H w = some (.tup [.int m, .ref ts]) ∧ H ts = some (.tup vs) ∧ Ties H m vs ∧ vs.length ≤ 61 ∧ 0 ≤ m ∧ m ≤ 12
theorem WebAt.mono {H H' : Hp} {w : Addr} {m : Int} {vs : List V} (h : WebAt H w m vs) (k : KeepT H H') : WebAt H' w m vs := let ⟨ts, a, b, c, r⟩ := h; ⟨ts, k _ _ a, k _ _ b, c.mono k, r⟩
def spWeb : Sp := fun vs H Q _ => ∃ (t : Addr) (g : Bool), vs = [.ref t, .bl g] ∧ Tape H t ∧ ∀ (w : Addr) (m : Int) (vs : List V) (H' : Hp), WebAt H' w m vs → Tape H' t → Ext t H H' → Q (.ref w) H'
def HueV (v : V) : Prop := v = .non ∨ ∃ n : Int, v = .int n ∧ 0 ≤ n
theorem HueV.flat {v : V} (h : HueV v) : flatV v = true := by
  rcases h with rfl | ⟨n, rfl, _⟩ <;> rfl
theorem hues_flat {vs : List V} (h : ∀ v ∈ vs, HueV v) : vs.all flatV = true := List.all_eq_true.mpr fun v hv => (h v hv).flat
theorem inV_int {n : Int} {vs : List V} (h : ∀ v ∈ vs, HueV v) (e : inV (.int n) vs = true) : V.int n ∈ vs := by
  unfold inV at e
  obtain ⟨y, hy, e⟩ := List.any_eq_true.mp e
  rcases h y hy with rfl | ⟨k, rfl, _⟩
  · cases e
  · have : k = n := by simpa [eqV] using e
    rw [← this]; exact hy
theorem pigeon : ∀ (n : Nat) (lo : Int) (ys : List V), ys.length ≤ n → ∃ i : Nat, i ≤ n ∧ V.int (lo + i) ∉ ys
  | 0, lo, ys, h => ⟨0, Nat.le_refl _, by
      have : ys = [] := List.length_eq_zero_iff.mp (by omega)
      rw [this]; simp⟩
  | n + 1, lo, ys, h => by
    by_cases hm : V.int lo ∈ ys
    · have hl : (ys.erase (.int lo)).length ≤ n := by rw [List.length_erase_of_mem hm]; omega
      obtain ⟨i, hi, hn⟩ := pigeon n (lo + 1) (ys.erase (.int lo)) hl
      refine ⟨i + 1, by omega, fun hx => hn ?_⟩
      have e : lo + ((i + 1 : Nat) : Int) = lo + 1 + (i : Int) := by omega
      rw [e] at hx
      exact (List.mem_erase_of_ne (by intro z; injection z with z; omega)).mpr hx
    · exact ⟨0, Nat.zero_le _, by simpa using hm⟩
theorem nd_tpt : ((["_law_turn"] : List Str) ++ (["_law_pairs", "_law_tape_here"] : List Str)).Nodup := by decide +kernel
theorem nd_kftw : ((["_law_k"] : List Str) ++ (["_law_found", "_law_tie", "_law_web_here"] : List Str)).Nodup := by decide +kernel
theorem nd_ht : ((["_law_hue"] : List Str) ++ (["_law_taken"] : List Str)).Nodup := by decide +kernel
section
variable {P : Program} {w : World} {K : PySem.W.Frag} {mg : Str → Option Value} {base : Heap}
abbrev CPairs (P : Program) (w : World) (K : PySem.W.Frag) (mg : Str → Option Value) (base : Heap) : Prop := Callee P w K mg base 2 "_law_pairs_by" ["_law_tape_here", "_law_great"] spPairs
theorem scWeb : FnScope ["_law_tape_here", "_law_great", "_law_many", "_law_pairs", "_law_ties", "_law_one", "_law_other"] ["_law_tape_here", "_law_great"] (defScope sWeb) := ⟨rfl, rfl, rfl, by decide +kernel, rfl, by decide +kernel, by decide +kernel⟩
def WSt (t : Addr) (g : Bool) (H0 : Hp) (B : Nat) (σ : St) (H : Hp) : Prop := ∃ (m : Int) (l : Addr) (ps : List V), σ = [some (.ref t), some (.bl g), some (.int m), some (.ref l), none, none, none] ∧ FS t H0 H l ps m ∧ ps.length ≤ B ∧ 0 ≤ m ∧ m ≤ 12
theorem ok_web {f : Addr} {fd : FuncData} (F : Fun K "_law_web" "_law_web" sWeb f fd) (T : Txt K mg) (CD : CDraw P w K mg base) (CP : CPairs P w K mg base) : FnOk P w K mg base CX0 3 f fd ["_law_tape_here", "_law_great"] spWeb := by
  refine F.ok scWeb (fun vs H Q E h => ?_) (fun cdv A outer s H vs Q E hr h => ?_)
  · obtain ⟨t, g, rfl, _⟩ := h; rfl
  · obtain ⟨t, g, rfl, T0, q⟩ := h
    have hr1 : Room 1 _ := hr.mono (by decide)
    have hu := hr.units0
    refine ⟨_, pss_cons (ps_asg (pe_def CP hr (by rfl) (pa_cons (pv 0) (pa_cons (pv 1) pa_nil))) (pg_tup rfl (pgs_cons (pg_name (i := 2) scWeb.nd rfl (Or.inl rfl)) (pgs_cons (pg_name (i := 3) scWeb.nd rfl (Or.inr rfl)) pgs_nil))))
      (pss_cons (ps_via (tTo (WSt t g H 58) (WSt t g H 58)) (ps_if (pt_cmpR (op_eqL hu) (pv 3) (pe_lst pa_nil) (nomark _))
          (pss_one (ps_asg (pe_def CP hr (by rfl) (pa_cons (pv 0) (pa_cons (pv 1) pa_nil))) (pg_tup rfl (pgs_cons (pg_name (i := 2) scWeb.nd rfl (Or.inl rfl)) (pgs_cons (pg_name (i := 3) scWeb.nd rfl (Or.inr rfl)) pgs_nil))))) pss_nil) ?i1)
      (pss_cons (ps_via (tTo (WSt t g H 58) (WSt t g H 61)) (ps_if (pw_and (pt_cmpR (op_neL hu) (pv 3) (pe_lst pa_nil) (nomark _)) (pw_and1 (pt_cmpR op_eq (pe_def CD hr1 (by rfl) (pa_cons (pv 0) (pa_cons pe_int pa_nil))) pe_int (nomark _)))).pt
          (pss_one (ps_set (i := 3) scWeb.nd rfl (Or.inr rfl) (pe_op op_cat (pv 3) (pe_comp ["_law_turn"] ["_law_pairs", "_law_tape_here"] [3, 0] (pi_range1 (by rfl) T.range (pa_cons (pe_op op_add pe_int (pe_def CD hr1 (by rfl) (pa_cons (pv 0) (pa_cons pe_int pa_nil)))) pa_nil)) (fun _ _ _ _ _ => pg_name (i := 0) nd_tpt rfl (Or.inl rfl)) (fun _ _ _ _ _ => pifs_nil)
              (fun _ _ _ _ _ => pe_ix (ix_listK (K := K) rfl) (pv 1) (pe_def CD hr1 (by rfl) (pa_cons (pv 2) (pa_cons (pe_callB (call_lenK (K := K) rfl) (by rfl) T.len b_len (pa_cons (pv 1) pa_nil)) pa_nil))) (fun _ _ => rfl)))))) pss_nil) ?i2)
      (pss_cons (ps_set (i := 4) scWeb.nd rfl (Or.inl rfl) (pe_lst pa_nil))
      (pss_cons (ps_for PassesOwn.never rfl (pi_list (pv 3)) (pg_tup rfl (pgs_cons (pg_name (i := 5) scWeb.nd rfl (Or.inl rfl)) (pgs_cons (pg_name (i := 6) scWeb.nd rfl (Or.inl rfl)) pgs_nil)))
          (pss_one (ps_expr (pe_bm PySem.F.plainAttrs_list PySem.F.slot_list_insert PySem.F.type_list_insert mt_insert (pv 4) (pa_cons (pe_def CD hr1 (by rfl) (pa_cons (pv 0) (pa_cons (pe_op op_add (pe_callB call_len_seq (by rfl) T.len b_len (pa_cons (pv 4) pa_nil)) pe_int) pa_nil)))
            (pa_cons (pe_tup (pa_cons (pe_callB (call_min2 rfl) (by rfl) T.min b_min (pa_cons (pv 5) (pa_cons (pv 6) pa_nil))) (pa_cons (pe_callB (call_max2 rfl) (by rfl) T.max b_max (pa_cons (pv 5) (pa_cons (pv 6) pa_nil))) pa_nil))) pa_nil))))))
      (pss_one (ps_ret (pe_tup (pa_cons (pv 2) (pa_cons (pe_callTy call_tuple_of (by rfl) T.tuple b_tuple (pa_cons (pv 4) pa_nil)) pa_nil))))))))), ?_⟩
    case i1 =>
      rintro D σ Hx ⟨⟨m, l, ps, rfl, fs, hl, hm0, hm1⟩, kn⟩
      refine ⟨_, rfl, by show 0 ≤ sizeLine; decide, fun p hp => ?_⟩
      have f1 := fs.new (o := .lst []) hp
      refine ⟨l, p, ps, [], rfl, rfl, SqL.of f1.at', SqL.of upd_same, .inr (.inr rfl), _, rfl, ?_⟩
      refine ite2 (fun _ => ?_) (fun _ => kn _ _ ⟨m, l, ps, rfl, f1, hl, hm0, hm1⟩)
      refine ⟨_, rfl, _, rfl, t, g, rfl, f1.tape, fun p2 l2 m2 ps2 H2 hp2 hH2 fs2 hl2 h0 h1 => ?_⟩
      refine ⟨p2, _, rfl, SqT.of hH2, rfl, _, _, rfl, _, _, rfl, rfl, ?_⟩
      exact kn _ _ ⟨m2, l2, ps2, rfl, FS.up (H1 := H) fs2 f1.ext, hl2, h0, h1⟩
    case i2 =>
      rintro D σ Hx ⟨⟨m, l, ps, rfl, fs, hl, hm0, hm1⟩, kn⟩
      refine ⟨_, rfl, by show 0 ≤ sizeLine; decide, fun p hp => ?_⟩
      have f1 := fs.new (o := .lst []) hp
      refine ⟨l, p, ps, [], rfl, rfl, SqL.of f1.at', SqL.of upd_same, .inr (.inr rfl), _, rfl, ?_⟩
      refine ite2 (fun hne => ?_) (fun _ => iteF (kn _ _ ⟨m, l, ps, rfl, f1, by omega, hm0, hm1⟩))
      have hps : 0 < ps.length := by
        cases ps with
        | nil => exact absurd hne (by decide)
        | cons _ _ => simp
      refine ⟨_, rfl, t, 4, rfl, f1.tape, by decide, by decide, fun r H2 hr0 hr1' T2 E2 => ?_⟩
      have f2 := f1.draw T2 E2
      refine ⟨rfl, _, rfl, ?_⟩
      refine ite2 (fun _ => ?_) (fun _ => kn _ _ ⟨m, l, ps, rfl, f2, by omega, hm0, hm1⟩)
      refine ⟨_, rfl, _, rfl, t, 3, rfl, f2.tape, by decide, by decide, fun b H3 hb0 hb1 T3 E3 => ?_⟩
      have f3 := f2.draw T3 E3
      refine ⟨_, _, rfl, rfl, 1 + b, rfl, by omega, by omega, fun Dl hD => comp_range (lo := 0) (n := (1 + b).toNat) (fun k ys H4 => FS t H H4 l ps m ∧ FS t H H4 Dl ys m ∧ ys.length ≤ k ∧ l ≠ Dl)
        ⟨f3.new hD, FS.lay f3.tape f3.ext T0 hD .nil, Nat.le_refl _, ne_of_none f3.at' hD⟩ ?_ ?_⟩
      · rintro k ys H4 hk ⟨fl, fd', hly, hne⟩
        refine compT ?_
        refine ⟨_, rfl, _, rfl, _, rfl, l, ps, rfl, .inl (SqL.of fl.at'), t, _, rfl, fl.tape, by omega, by omega, fun c H5 hc0 hc1 T5 E5 => ?_⟩
        have fl5 := fl.draw T5 E5
        have fd5 := fd'.draw T5 E5
        have hget : ps[c.toNat]? = some (ps[c.toNat]'(by omega)) := by simp
        refine ⟨l, ps, c, _, rfl, rfl, SqL.of fl5.at', (by have := atI_nat hget; rwa [Int.toNat_of_nonneg hc0] at this), ?_⟩
        exact ⟨fd5.at', small1000 (by omega), fl5.oth fd5.at' fd5.fr hne fd5.ne, fd5.set (fd5.prs.app (.one (fl5.prs _ (List.getElem_mem _)))), by rw [List.length_append, List.length_singleton]; omega, hne⟩
      · rintro ys H4 ⟨fl, fd', hly, hne⟩
        refine ⟨l, Dl, ps, ys, rfl, rfl, fl.at', fd'.at', sl3 (by omega), fun q2 hq2 => ?_⟩
        exact kn _ _ ⟨m, q2, ps ++ ys, rfl, FS.lay fl.tape fl.ext T0 hq2 (fl.prs.app fd'.prs), by rw [List.length_append]; omega, hm0, hm1⟩
    -- the whole
    refine ⟨_, rfl, _, rfl, t, g, rfl, T0, fun p2 l2 m2 ps2 H2 hp2 hH2 fs2 hl2 h0 h1 => ?_⟩
    refine ⟨p2, _, rfl, SqT.of hH2, rfl, _, _, rfl, _, _, rfl, rfl, ?_⟩
    refine ⟨⟨m2, l2, ps2, rfl, fs2, hl2, h0, h1⟩, fun _ _ h => ⟨h, ?_⟩⟩
    rintro σ H3 ⟨m, l, ps, rfl, fs, hl, hm0, hm1⟩
    refine ⟨by show 0 ≤ sizeLine; decide, fun d hd => ?_⟩
    have f4 := fs.new (o := .lst []) hd
    refine ⟨_, rfl, l, rfl, ⟨_, SqL.of f4.at'⟩, for_list (K := K) (a := l) (xs := ps) (fun i σ H4 => ∃ (vs : List V) (o5 o6 : Option V), σ = [some (.ref t), some (.bl g), some (.int m), some (.ref l), some (.ref d), o5, o6] ∧ FS t H H4 l ps m ∧ GS t H H4 d vs ∧ Ties H4 m vs ∧ vs.length = i)
      ⟨[], none, none, rfl, f4, GS.lay fs.tape fs.ext hd, (fun _ h => nomatch h), rfl⟩ (fun i σ H4 _ ⟨_, _, _, _, f, _⟩ => SqL.of f.at') ?_ ?_⟩
    · rintro i x σ H4 hx ⟨vs, o5, o6, rfl, fl, gs, ts, hvl⟩
      have hil : i < ps.length := (List.getElem?_eq_some_iff.mp hx).1
      obtain ⟨qa, a, b, rfl, hqa, ha0, ha1, hb0, hb1, hab⟩ := fl.prs x (List.mem_of_getElem? hx)
      have hne : l ≠ d := ne_of_none fs.at' hd
      refine ⟨qa, _, rfl, SqT.of hqa, rfl, _, _, rfl, _, _, rfl, rfl, ?_⟩
      refine ⟨_, rfl, .inl ⟨rfl, _, SqL.of gs.at'⟩, _, rfl, _, rfl, d, vs, rfl, .inl (SqL.of gs.at'), _, _, rfl, rfl, t, _, rfl, gs.tape, by omega, by omega, fun c H5 hc0 hc1 T5 E5 => ?_⟩
      have fl5 := fl.draw T5 E5
      have gs5 := gs.draw T5 E5
      have ts5 := ts.mono (E5.keepT gs.tape)
      refine ⟨_, rfl, _, rfl, a, b, rfl, _, rfl, _, rfl, a, b, rfl, by show 2 ≤ sizeLine; decide, fun p hp => ?_⟩
      have gs6 := gs5.new (o := .tup [.int (if b < a then b else a), .int (if b > a then b else a)]) hp
      have fl6 := fl5.new (o := .tup [.int (if b < a then b else a), .int (if b > a then b else a)]) hp
      have tn : TieAt (upd H5 p (.tup [.int (if b < a then b else a), .int (if b > a then b else a)])) m (.ref p) := ⟨p, _, _, rfl, upd_same, by split <;> omega, by split <;> split <;> omega, by split <;> omega⟩
      refine ⟨d, vs, c, _, rfl, rfl, gs6.at', hc0, by omega, small1000 (by omega), ?_⟩
      refine ⟨vs.take c.toNat ++ .ref p :: vs.drop c.toNat, _, _, rfl, fl6.oth gs6.at' gs6.fr hne gs6.ne, gs6.set, fun v hv => ?_, ?_⟩
      · refine TieAt.mono ?_ (.lst gs6.at')
        rcases List.mem_append.mp hv with hv | hv
        · exact (ts5 v (List.mem_of_mem_take hv)).mono (.new hp)
        · rcases List.mem_cons.mp hv with rfl | hv
          · exact tn
          · exact (ts5 v (List.mem_of_mem_drop hv)).mono (.new hp)
      · rw [List.length_append, List.length_cons, List.length_take, List.length_drop]; omega
    · rintro σ H4 ⟨vs, o5, o6, rfl, fl, gs, ts, hvl⟩
      refine ⟨_, rfl, _, rfl, d, vs, rfl, .inl ⟨SqL.of gs.at', fun l3 hl3 => ?_⟩⟩
      refine ⟨by show 2 ≤ sizeLine; decide, fun p3 hp3 => ?_⟩
      have g3 := (gs.new (o := .tup vs) hl3).new (o := .tup [.int m, .ref l3]) hp3
      refine q p3 m vs _ ⟨l3, upd_same, ?_, (ts.mono (.new hl3)).mono (.new hp3), by omega, hm0, hm1⟩ g3.tape g3.ext
      rw [upd_ne (ne_of_none (upd_same (H := H4) (a := l3) (o := .tup vs)) hp3)]
      exact upd_same
theorem scMeet : FnScope ["_law_web_here", "_law_one", "_law_other"] ["_law_web_here", "_law_one", "_law_other"] (defScope sMeet) := ⟨rfl, rfl, rfl, by decide +kernel, rfl, by decide +kernel, by decide +kernel⟩
end
end Hue
set_option Elab.async false
set_option linter.all false
set_option maxRecDepth 100000
set_option maxHeartbeats 1500000
namespace Hue
open PySem L2
theorem keepN {H : Hp} {b p : Addr} {o u : HO} (h : H b = some o) (n : H p = none) : (upd H p u) b = some o := by rw [upd_ne (ne_of_none h n)]; exact h
theorem keepO {H : Hp} {b p : Addr} {o u : HO} (h : H b = some o) (n : b ≠ p) : (upd H p u) b = some o := by rw [upd_ne n]; exact h
def ktn (t c : String) : Option Bool := if (Value.type t == Value.type c) = true then some true else if PySem.W.kitMeta c = true then (fastBuiltinMro t).map (·.contains (.type c)) else none
theorem kit_n {K : PySem.W.Frag} (t c : String) : PySem.W.kitOne K (.type t) (.type c) = ktn t c := rfl
theorem kt_ll : ktn "list" "list" = some true := by decide +kernel
theorem kt_lt : ktn "list" "tuple" = some false := by decide +kernel
theorem kt_il : ktn "int" "list" = some false := by decide +kernel
theorem kt_it : ktn "int" "tuple" = some false := by decide +kernel
theorem kt_is : ktn "int" "str" = some false := by decide +kernel
theorem kt_ii : ktn "int" "int" = some true := by decide +kernel
theorem kt_ib : ktn "int" "bool" = some false := by decide +kernel
theorem kt_tl : ktn "tuple" "list" = some false := by decide +kernel
theorem kt_tt : ktn "tuple" "tuple" = some true := by decide +kernel
theorem any_lst {K : PySem.W.Frag} : PySem.W.kitAny K (.type "list") (["list", "tuple"].map Value.type) = some true := by
  show (match PySem.W.kitOne K (.type "list") (.type "list") with | some true => some true | some false => PySem.W.kitAny K (.type "list") [.type "tuple"] | none => none) = some true
  rw [kit_n, kt_ll]
theorem any_two_f {K : PySem.W.Frag} {t : String} (h1 : ktn t "list" = some false) (h2 : ktn t "tuple" = some false) : PySem.W.kitAny K (.type t) (["list", "tuple"].map Value.type) = some false := by
  show (match PySem.W.kitOne K (.type t) (.type "list") with | some true => some true | some false => (match PySem.W.kitOne K (.type t) (.type "tuple") with | some true => some true | some false => some false | none => none) | none => none) = some false
  rw [kit_n, h1]
  show (match PySem.W.kitOne K (.type t) (.type "tuple") with | some true => some true | some false => some false | none => none) = some false
  rw [kit_n, h2]
theorem pss_no {X : Cx} {sts : List Stmt} : PSs X sts (fun _ _ _ => False) := fun _ _ _ _ _ _ h => h.elim
theorem pg_tupK {X : Cx} {K : PySem.W.Frag} {es : List Expr} {k : Nat} {t : TGs} {n : Nat} {pos : Pos} (hK : X.K = K) (hc : X.calm = true) (h : PGs X es t)
    (hn : (assignEach es X.env).length = n := by rfl) (hst : (assignEach es X.env).findIdx? (·.1) = none := by rfl) : PG X (.Tuple es k pos) (gTup K n t) := hK ▸ pg_tup hc h hn hst
theorem bl_t {Q : VK} {c : Prop} [Decidable c] {H : Hp} (h : c) (q : Q (.bl true) H) : Q (.bl (decide c)) H := by rw [decide_eq_true h]; exact q
theorem iteD {c A B : Prop} [Decidable c] (h : c) (a : A) : if decide c = true then A else B := by rw [if_pos (decide_eq_true h)]; exact a
theorem iteND {c A B : Prop} [Decidable c] (h : ¬ c) (a : B) : if decide c = true then A else B := by rw [if_neg (by rw [decide_eq_true_eq]; exact h)]; exact a
def Atom (v : V) : Prop := v = .non ∨ ∃ n : Int, v = .int n
def Sm : Nat → Hp → V → V → Prop
  | 0, _, x, y => x = y ∧ Atom x
  | n + 1, H, x, y => ∃ a b xs ys, x = .ref a ∧ y = .ref b ∧ H a = some (.lst xs) ∧ H b = some (.lst ys) ∧ xs.length = ys.length ∧ xs.length ≤ 900 ∧ ∀ (i : Nat) u v, xs[i]? = some u → ys[i]? = some v → Sm n H u v
theorem Sm.mono {H H' : Hp} (s : Same H H') : ∀ (n : Nat) {x y : V}, Sm n H x y → Sm n H' x y
  | 0, _, _, h => h
  | n + 1, _, _, ⟨a, b, xs, ys, e1, e2, h1, h2, l1, l2, q⟩ => ⟨a, b, xs, ys, e1, e2, s _ _ h1, s _ _ h2, l1, l2, fun i u v hu hv => (q i u v hu hv).mono s n⟩
theorem same_new {H H' : Hp} {p : Addr} {o : HO} (s : Same H H') (n : H' p = none) : Same H (upd H' p o) := fun b u e => keepN (s b u e) n
theorem same_own {H H' : Hp} {p : Addr} {o : HO} (s : Same H H') (n : H p = none) : Same H (upd H' p o) := fun b u e => keepO (s b u e) (ne_of_none e n)
end Hue
set_option Elab.async false
set_option linter.all false
set_option maxRecDepth 100000
set_option maxHeartbeats 1500000
namespace Hue
open PySem L2
theorem iteNT {c A B : Prop} [Decidable c] (h : ¬ c) (a : A) : if (!decide c) = true then A else B := by
  rw [decide_eq_false h]
  exact iteT a
def WebE (H : Hp) (w : Addr) (m : Int) (es : List (Int × Int)) : Prop := ∃ (ta : Addr) (ts : List V), H w = some (.tup [.int m, .ref ta]) ∧ H ta = some (.tup ts) ∧ ts.length = es.length ∧
  (∀ (k : Nat) v, ts[k]? = some v → ∃ q e, v = .ref q ∧ es[k]? = some e ∧ H q = some (.tup [.int e.1, .int e.2])) ∧ (∀ e ∈ es, 0 ≤ e.1 ∧ e.1 < e.2 ∧ e.2 < m) ∧ es.length ≤ 61 ∧ 0 ≤ m ∧ m ≤ 12
theorem WebE.mono {H H' : Hp} {w : Addr} {m : Int} {es : List (Int × Int)} (h : WebE H w m es) (k : KeepT H H') : WebE H' w m es :=
  let ⟨ta, ts, a, b, c, d, r⟩ := h
  ⟨ta, ts, k _ _ a, k _ _ b, c, fun i v hv => let ⟨q, e, e1, e2, e3⟩ := d i v hv; ⟨q, e, e1, e2, k _ _ e3⟩, r⟩
theorem ties_pure {H : Hp} {m : Int} : ∀ (ts : List V), Ties H m ts → ∃ es : List (Int × Int), ts.length = es.length ∧ (∀ (k : Nat) v, ts[k]? = some v → ∃ q e, v = .ref q ∧ es[k]? = some e ∧ H q = some (.tup [.int e.1, .int e.2])) ∧ (∀ e ∈ es, 0 ≤ e.1 ∧ e.1 < e.2 ∧ e.2 < m)
  | [], _ => ⟨[], rfl, fun k v h => by simp at h, fun _ h => nomatch h⟩
  | v :: ts, h => by
    obtain ⟨es, h1, h2, h3⟩ := ties_pure ts (fun u hu => h u (List.mem_cons_of_mem _ hu))
    obtain ⟨q, i, j, e1, e2, e3⟩ := h v (List.mem_cons_self ..)
    refine ⟨(i, j) :: es, by simp [h1], fun k u hu => ?_, fun e he => ?_⟩
    · cases k with
      | zero =>
        simp at hu
        subst hu
        exact ⟨q, (i, j), e1, rfl, e2⟩
      | succ k => exact h2 k u (by simpa using hu)
    · rcases List.mem_cons.mp he with rfl | he
      · exact e3
      · exact h3 e he
theorem WebAt.pure {H : Hp} {w : Addr} {m : Int} {ts : List V} (h : WebAt H w m ts) : ∃ es, WebE H w m es ∧ es.length = ts.length := by
  obtain ⟨ta, a, b, c, d, r⟩ := h
  obtain ⟨es, h1, h2, h3⟩ := ties_pure ts c
  exact ⟨es, ⟨ta, ts, a, b, h1, h2, h3, by omega, r⟩, h1.symm⟩
theorem sameKT {H H' : Hp} (s : Same H H') : KeepT H H' := fun b xs h => s b _ h
def atE (p : Int) (e : Int × Int) : Bool := e.1 == p || e.2 == p
theorem inV_pair (p : Int) (e : Int × Int) : inV (.int p) [.int e.1, .int e.2] = atE p e := by simp [inV, eqV, atE]
def SeqA (H : Hp) (a : Addr) (row : List V) : Prop := H a = some (.lst row) ∨ H a = some (.tup row)
theorem SeqA.same {H H' : Hp} {a : Addr} {row : List V} (h : SeqA H a row) (s : Same H H') : SeqA H' a row := h.imp (s _ _) (s _ _)
end Hue
set_option Elab.async false
set_option linter.all false
set_option maxRecDepth 100000
set_option maxHeartbeats 1500000
namespace Hue
open PySem L2
theorem hueV_int {n : Int} (h : 0 ≤ n) : HueV (.int n) := .inr ⟨n, rfl, h⟩
def isIntC : Expr → Option Int
  | .Constant (.int i) _ _ => some i
  | _ => none
theorem isIntC_eq {e : Expr} {i : Int} (h : isIntC e = some i) : ∃ j pos, e = .Constant (.int i) j pos := by
  unfold isIntC at h
  split at h
  · cases h; exact ⟨_, _, rfl⟩
  · cases h
theorem pa_ints {X : Cx} (ns : List Int) : ∀ {es : List Expr}, es.map isIntC = ns.map some → PA X es (fun _ H Q => Q (ns.map V.int) H) := by
  induction ns with
  | nil =>
    intro es h
    have : es = [] := by simpa using h
    subst this
    exact pa_nil
  | cons n ns ih =>
    intro es h
    cases es with
    | nil => cases h
    | cons e es =>
      simp only [List.map_cons, List.cons.injEq] at h
      obtain ⟨j, pos, rfl⟩ := isIntC_eq h.1
      exact pa_cons pe_int (ih h.2)
def isIntList : Expr → Option (List (Option Int))
  | .List es _ => some (es.map isIntC)
  | _ => none
theorem isIntList_eq {e : Expr} {ns : List (Option Int)} (h : isIntList e = some ns) : ∃ es pos, e = .List es pos ∧ es.map isIntC = ns := by
  unfold isIntList at h
  split at h
  · cases h; exact ⟨_, _, rfl, rfl⟩
  · cases h
def layAll : List (List Int) → Hp → (List V → Hp → Prop) → Prop
  | [], H, Q => Q [] H
  | ns :: r, H, Q => (ns.map V.int).length ≤ sizeLine ∧ ∀ p, H p = none → layAll r (upd H p (.lst (ns.map V.int))) fun vs H' => Q (.ref p :: vs) H'
theorem star_list {X : Cx} (xs : List Expr) (pos : Pos) (es : List Expr) : starEach (.List xs pos :: es) X.env = (false, eval (.List xs pos) X.env) :: starEach es X.env := by rfl
theorem pa_intLists {X : Cx} (nss : List (List Int)) : ∀ {es : List Expr}, es.map isIntList = nss.map (fun ns => some (ns.map some)) → PA X es (fun _ H Q => layAll nss H Q) := by
  induction nss with
  | nil =>
    intro es h
    have : es = [] := by simpa using h
    subst this
    exact pa_nil
  | cons n ns ih =>
    intro es h
    cases es with
    | nil => cases h
    | cons e es =>
      simp only [List.map_cons, List.cons.injEq] at h
      obtain ⟨xs, pos, rfl, hx⟩ := isIntList_eq h.1
      exact pa_cons (pe_lst (pa_ints n hx)) (ih h.2) (star_list xs pos es)
theorem ps_some {X : Cx} (i : Nat) {x : Str} {es : List Expr} {idx : Expr} {px p1 p2 p3 : Pos} {ti : TE} (nss : List (List Int)) (hN : X.N.Nodup) (hi : X.N[i]? = some x) (hx : Loc X.env.scope x) (h : es.map isIntList = nss.map (fun ns => some (ns.map some))) (hidx : PE X idx ti) (hpl : PlainIx idx)
    (hs : swapsWith (.Subscript (.List es p1) idx p2) (some (.Name x px)) p3.line X.env = pure false) (hf : X.fn x = true ∨ X.env.scope.names.lookup x = some .local) :
    PS X (.Assign [.Name x px] (.Subscript (.List es p1) idx p2) p3) (tAsg (tOp (rIxL X.K) (tLst (fun _ H Q => layAll nss H Q)) ti) (gName i)) := ps_set hN hi hx (pe_ix ix_list (pe_lst (pa_intLists nss h)) hidx hpl) hs hf
theorem rng_get (lo : Int) (n i : Nat) (h : i < n) : (rngV lo n)[i]? = some (.int (lo + i)) := by unfold rngV; simp [h]
def mtE (e f : Int × Int) : Bool := atE e.1 f || atE e.2 f
def mtI (es : List (Int × Int)) (a b : Nat) : Bool := match es[a]?, es[b]? with
  | some e, some f => mtE e f
  | _, _ => false
def spMeetE : Sp := fun vs H Q _ => ∃ (w : Addr) (m : Int) (es : List (Int × Int)) (a b : Nat), vs = [.ref w, .int a, .int b] ∧ WebE H w m es ∧ a < es.length ∧ b < es.length ∧ Q (.bl (mtI es a b)) H
def Prop2 (es : List (Int × Int)) (row : List V) : Prop := ∀ a b, a < b → b < row.length → mtI es a b = true → ∀ n : Int, row[a]? = some (.int n) → row[b]? ≠ some (.int n)
def spHueP : Sp := fun vs H Q _ => ∃ (t w : Addr) (b : Bool) (m : Int) (es : List (Int × Int)), vs = [.ref t, .ref w, .bl b] ∧ Tape H t ∧ WebE H w m es ∧
  ∀ (l : Addr) (row : List V) (H' : Hp), GS t H H' l row → row.length = es.length → (∀ v ∈ row, HueV v) → Prop2 es row → Q (.ref l) H'
theorem inV_mem {v : V} {ys : List V} (hv : HueV v) (hy : ∀ u ∈ ys, HueV u) (h : inV v ys = false) : v ∉ ys := by
  intro hm
  have : inV v ys = true := by
    unfold inV
    refine List.any_eq_true.mpr ⟨v, hm, ?_⟩
    rcases hv with rfl | ⟨n, rfl, _⟩ <;> simp [eqV]
  rw [h] at this
  cases this
theorem Prop2.non {es : List (Int × Int)} {row : List V} (h : Prop2 es row) : Prop2 es (row ++ [.non]) := by
  intro a b hab hb hm n ha hb'
  by_cases q : b < row.length
  · rw [List.getElem?_append_left (by omega)] at ha
    rw [List.getElem?_append_left q] at hb'
    exact h a b hab q hm n ha hb'
  · rw [List.getElem?_append_right (by omega)] at hb'
    have : b - row.length = 0 := by simp at hb; omega
    rw [this] at hb'
    cases hb'
theorem Prop2.add {es : List (Int × Int)} {row ys : List V} {v : V} (h : Prop2 es row) (hy : ∀ j, j < row.length → mtI es j row.length = true → ∀ u, row[j]? = some u → u ∈ ys) (hv : v ∉ ys) : Prop2 es (row ++ [v]) := by
  intro a b hab hb hm n ha hb'
  by_cases q : b < row.length
  · rw [List.getElem?_append_left (by omega)] at ha
    rw [List.getElem?_append_left q] at hb'
    exact h a b hab q hm n ha hb'
  · have hbl : b = row.length := by simp at hb; omega
    subst hbl
    rw [List.getElem?_append_left (by omega)] at ha
    rw [List.getElem?_append_right (Nat.le_refl _), Nat.sub_self] at hb'
    have e : v = .int n := by simpa using hb'
    exact hv (e ▸ hy a (by omega) hm _ ha)
section
variable {P : Program} {w : World} {K : PySem.W.Frag} {mg : Str → Option Value} {base : Heap}
theorem ok_meetE {f : Addr} {fd : FuncData} (F : Fun K "_law_meet" "_law_meet" sMeet f fd) : FnOk P w K mg base CX0 1 f fd ["_law_web_here", "_law_one", "_law_other"] spMeetE := by
  refine F.ok scMeet (fun vs H Q E h => ?_) (fun cdv A outer s H vs Q E hr h => ?_)
  · obtain ⟨_, _, _, _, _, rfl, _⟩ := h; rfl
  · obtain ⟨w0, m, es, a, b, rfl, ⟨tt, ts, hw, htt, htl, hts, _⟩, ha, hb, q⟩ := h
    refine ⟨_, pss_one (ps_ret (pe_or (pe_cmpR op_in_seq (pe_ix ix_tup (pe_ix ix_tup (pe_ix ix_tup (pv 0) pe_int (fun _ _ => rfl)) (pv 1) (fun _ _ => rfl)) pe_int (fun _ _ => rfl)) (pe_ix ix_tup (pe_ix ix_tup (pv 0) pe_int (fun _ _ => rfl)) (pv 2) (fun _ _ => rfl)) (by with_unfolding_all rfl))
      (pe_one (pe_cmpR op_in_seq (pe_ix ix_tup (pe_ix ix_tup (pe_ix ix_tup (pv 0) pe_int (fun _ _ => rfl)) (pv 1) (fun _ _ => rfl)) pe_int (fun _ _ => rfl)) (pe_ix ix_tup (pe_ix ix_tup (pv 0) pe_int (fun _ _ => rfl)) (pv 2) (fun _ _ => rfl)) (by with_unfolding_all rfl))))), ?_⟩
    have ea : ts[a]? = some (ts[a]'(by omega)) := by simp
    have eb : ts[b]? = some (ts[b]'(by omega)) := by simp
    obtain ⟨qa, e, e1, ee, h1⟩ := hts a _ ea
    obtain ⟨qb, g, e2, eg, h2⟩ := hts b _ eb
    rw [e1] at ea
    rw [e2] at eb
    have w1 : atI [V.int m, V.ref tt] 1 = some (.ref tt) := rfl
    have k0 : atI [V.int e.1, V.int e.2] 0 = some (.int e.1) := rfl
    have k1 : atI [V.int e.1, V.int e.2] 1 = some (.int e.2) := rfl
    have mi : mtI es a b = (atE e.1 g || atE e.2 g) := by unfold mtI; rw [ee, eg]; rfl
    rw [mi] at q
    refine ⟨_, rfl, w0, _, _, _, rfl, rfl, SqT.of hw, w1, _, rfl, tt, ts, _, _, rfl, rfl, SqT.of htt, atI_nat ea, qa, _, _, _, rfl, rfl, SqT.of h1, k0, _, rfl, w0, _, _, _, rfl, rfl, SqT.of hw, w1, _, rfl, tt, ts, _, _, rfl, rfl, SqT.of htt, atI_nat eb, qb, _, rfl, .inr (SqT.of h2), rfl, rfl, _, rfl, ?_⟩
    show if inV (.int e.1) [.int g.1, .int g.2] = true then _ else _
    rw [inV_pair]
    refine ite2 (fun z => by rw [z] at q; exact q) (fun z => ?_)
    refine ⟨_, rfl, w0, _, _, _, rfl, rfl, SqT.of hw, w1, _, rfl, tt, ts, _, _, rfl, rfl, SqT.of htt, atI_nat ea, qa, _, _, _, rfl, rfl, SqT.of h1, k1, _, rfl, w0, _, _, _, rfl, rfl, SqT.of hw, w1, _, rfl, tt, ts, _, _, rfl, rfl, SqT.of htt, atI_nat eb, qb, _, rfl, .inr (SqT.of h2), rfl, rfl, ?_⟩
    show Q (.bl (inV (.int e.2) [.int g.1, .int g.2])) H
    rw [inV_pair]
    have z' : atE e.1 g = false := by simpa using z
    rw [z', Bool.false_or] at q
    exact q
abbrev CMeetE (P : Program) (w : World) (K : PySem.W.Frag) (mg : Str → Option Value) (base : Heap) : Prop := Callee P w K mg base 1 "_law_meet" ["_law_web_here", "_law_one", "_law_other"] spMeetE
theorem scHueing : FnScope ["_law_tape_here", "_law_web_here", "_law_bare", "_law_some", "_law_found", "_law_tie", "_law_taken", "_law_hue", "_law_free"] ["_law_tape_here", "_law_web_here", "_law_bare"] (defScope sHueing) := ⟨rfl, rfl, rfl, by decide +kernel, rfl, by decide +kernel, by decide +kernel⟩
theorem ok_hueing {f : Addr} {fd : FuncData} (F : Fun K "_law_hueing" "_law_hueing" sHueing f fd) (T : Txt K mg) (CD : CDraw P w K mg base) (CM : CMeetE P w K mg base) : FnOk P w K mg base CX0 2 f fd ["_law_tape_here", "_law_web_here", "_law_bare"] spHueP := by
  refine F.ok scHueing (fun vs H Q E h => ?_) (fun cdv A outer s H vs Q E hr h => ?_)
  · obtain ⟨t, w0, b, m, es, rfl, _⟩ := h; rfl
  · obtain ⟨t, w0, b, m, es, rfl, T0, W0, q⟩ := h
    refine ⟨_, @pss_cons _ _ _ _ _ (@ps_some _ 3 _ _ _ _ _ _ _ _ [[0, 1, 2, 3, 4, 5], [0, 1, 7, 40], [2, 0, 1, 5, 9], [99, 3, 0, 11, 4, 2]] scHueing.nd rfl (Or.inl rfl) (by rfl) (pe_def CD hr (by rfl) (pa_cons (pv 0) (pa_cons pe_int pa_nil))) (fun _ _ => rfl) (by rfl) (Or.inl rfl))
      (pss_cons (ps_set (i := 4) scHueing.nd rfl (Or.inr rfl) (pe_lst pa_nil))
      (pss_cons (ps_for PassesOwn.never rfl (pi_range1 (by rfl) T.range (pa_cons (pe_callB call_len_seq (by rfl) T.len b_len (pa_cons (pe_ix ix_tup (pv 1) pe_int (fun _ _ => rfl)) pa_nil)) pa_nil)) (pg_name (i := 5) scHueing.nd rfl (Or.inr rfl))
        (pss_cons (ps_set (i := 6) scHueing.nd rfl (Or.inr rfl) (pe_comp ["_law_k"] ["_law_found", "_law_tie", "_law_web_here"] [4, 5, 1] (pi_range1 (by rfl) T.range (pa_cons (pv 5) pa_nil)) (fun _ _ _ _ _ => pg_name (i := 0) nd_kftw rfl (Or.inl rfl))
            (fun _ _ _ _ _ => pifs_one (pt_val (pe_def CM hr (by rfl) (pa_cons (pv 3) (pa_cons (pv 0) (pa_cons (pv 2) pa_nil)))))) (fun _ _ _ _ _ => pe_ix (ix_listK (K := K) rfl) (pv 1) (pv 0) (fun _ _ => rfl))))
        (pss_cons (ps_setComp (i := 8) ["_law_hue"] ["_law_taken"] [6] scHueing.nd rfl rfl (pi_list (pe_op op_cat (pv 3) (pe_callTy (call_listRng rfl) (by rfl) T.list b_list (pa_cons (pe_callTy call_rng2 (by rfl) T.range b_range (pa_cons pe_int (pa_cons (pe_op op_add (pe_op op_add pe_int (pe_callB call_len_seq (by rfl) T.len b_len (pa_cons (pv 6) pa_nil))) pe_int) pa_nil))) pa_nil))))
            (fun _ _ _ _ _ => pg_name (i := 0) nd_ht rfl (Or.inl rfl)) (fun _ _ _ _ _ => pifs_one (pt_cmpR (op_notInK (K := K) rfl) (pv 0) (pv 1) (by with_unfolding_all rfl))) (fun _ _ _ _ _ => pv 0))
        (pss_cons (ps_set (i := 7) scHueing.nd rfl (Or.inl rfl) (pe_ix ix_list (pv 8) (pe_def CD hr (by rfl) (pa_cons (pv 0) (pa_cons (pe_callB (call_min2 rfl) (by rfl) T.min b_min (pa_cons pe_int (pa_cons (pe_callB call_len_seq (by rfl) T.len b_len (pa_cons (pv 8) pa_nil)) pa_nil))) pa_nil))) (fun _ _ => rfl)))
        (pss_one (ps_expr (pe_bm PySem.F.plainAttrs_list PySem.F.slot_list_append PySem.F.type_list_append mt_append (pv 4) (pa_cons (pe_ix ix_list (pe_lst (pa_cons (pv 7) (pa_cons pe_non pa_nil)))
            (pe_callTy call_int1 (by rfl) T.int b_int (pa_cons (pe_and (pv 2) (pe_one (pe_cmpR op_eq (pe_def CD hr (by rfl) (pa_cons (pv 0) (pa_cons pe_int pa_nil))) pe_int (nomark _)))) pa_nil)) (fun _ _ => rfl)) pa_nil))))))))
      (pss_one (ps_ret (pv 4))))), ?_⟩
    have hI : ∀ ns : List Int, (∀ n ∈ ns, 0 ≤ n) → ∀ v ∈ ns.map V.int, HueV v := fun ns hn v hv => by
      obtain ⟨n, hn', rfl⟩ := List.mem_map.mp hv
      exact hueV_int (hn n hn')
    refine ⟨by show 6 ≤ sizeLine; decide, fun p1 h1 => ⟨by show 4 ≤ sizeLine; decide, fun p2 h2 => ⟨by show 5 ≤ sizeLine; decide, fun p3 h3 => ⟨by show 6 ≤ sizeLine; decide, fun p4 h4 => ⟨by show 4 ≤ sizeLine; decide, fun p5 h5 => ?_⟩⟩⟩⟩⟩
    have T5 := ((((T0.new (o := .lst [.int 0, .int 1, .int 2, .int 3, .int 4, .int 5]) h1).new (o := .lst [.int 0, .int 1, .int 7, .int 40]) h2).new (o := .lst [.int 2, .int 0, .int 1, .int 5, .int 9]) h3).new (o := .lst [.int 99, .int 3, .int 0, .int 11, .int 4, .int 2]) h4).new (o := .lst [.ref p1, .ref p2, .ref p3, .ref p4]) h5
    have E5 := (((((Ext.refl t H).new (o := .lst [.int 0, .int 1, .int 2, .int 3, .int 4, .int 5]) h1).new (o := .lst [.int 0, .int 1, .int 7, .int 40]) h2).new (o := .lst [.int 2, .int 0, .int 1, .int 5, .int 9]) h3).new (o := .lst [.int 99, .int 3, .int 0, .int 11, .int 4, .int 2]) h4).new (o := .lst [.ref p1, .ref p2, .ref p3, .ref p4]) h5
    refine ⟨_, rfl, t, 4, rfl, T5, by decide, by decide, fun r H6 hr0 hr1 T6 E6 => ?_⟩
    have n1 : p1 ≠ t := T0.ne h1
    have n2 : p2 ≠ t := (T0.new h1).ne h2
    have n3 : p3 ≠ t := ((T0.new h1).new h2).ne h3
    have n4 : p4 ≠ t := (((T0.new h1).new h2).new h3).ne h4
    have n5 : p5 ≠ t := ((((T0.new h1).new h2).new h3).new h4).ne h5
    obtain ⟨so, xs, hso, hxs, hxh, hxl, son⟩ : ∃ (so : Addr) (xs : List V), atI [V.ref p1, V.ref p2, V.ref p3, V.ref p4] r = some (.ref so) ∧ H6 so = some (.lst xs) ∧ (∀ v ∈ xs, HueV v) ∧ xs.length ≤ 6 ∧ so ≠ t := by
      rcases (show r = 0 ∨ r = 1 ∨ r = 2 ∨ r = 3 by omega) with rfl | rfl | rfl | rfl
      · exact ⟨p1, _, rfl, E6 _ _ n1 (keepN (keepN (keepN (keepN upd_same h2) h3) h4) h5), hI [0, 1, 2, 3, 4, 5] (by decide), by decide, n1⟩
      · exact ⟨p2, _, rfl, E6 _ _ n2 (keepN (keepN (keepN upd_same h3) h4) h5), hI [0, 1, 7, 40] (by decide), by decide, n2⟩
      · exact ⟨p3, _, rfl, E6 _ _ n3 (keepN (keepN upd_same h4) h5), hI [2, 0, 1, 5, 9] (by decide), by decide, n3⟩
      · exact ⟨p4, _, rfl, E6 _ _ n4 (keepN upd_same h5), hI [99, 3, 0, 11, 4, 2] (by decide), by decide, n4⟩
    refine ⟨p5, _, r, _, rfl, rfl, SqL.of (E6 _ _ n5 upd_same), hso, ?_⟩
    refine ⟨by show 0 ≤ sizeLine; decide, fun l hl => ?_⟩
    have E7 : Ext t H H6 := E5.trans E6
    have g7 : GS t H (upd H6 l (.lst [])) l [] := GS.lay T6 E7 hl
    have sol : so ≠ l := ne_of_none hxs hl
    obtain ⟨tt, ts, hw, htt, htl, hts, hbb, hlen, hm0, hm1⟩ := id (W0.mono (g7.ext.keepT T0))
    refine ⟨_, rfl, w0, _, _, _, rfl, rfl, SqT.of hw, (rfl : atI [V.int m, V.ref tt] 1 = some (.ref tt)), tt, ts, rfl, .inr (SqT.of htt), ts.length, rfl, by omega, by omega, for_range (lo := 0) (n := ((ts.length : Nat) : Int).toNat)
      (fun i σ H7 => ∃ (row : List V) (o5 o6 o7 o8 : Option V), σ = [some (.ref t), some (.ref w0), some (.bl b), some (.ref so), some (.ref l), o5, o6, o7, o8] ∧ GS t H H7 l row ∧ H7 so = some (.lst xs) ∧ row.length = i ∧ (∀ v ∈ row, HueV v) ∧ Prop2 es row)
      ⟨[], none, none, none, none, rfl, g7, keepN hxs hl, rfl, (fun _ h => nomatch h), (fun a b _ hb => absurd hb (Nat.not_lt_zero _))⟩ ?_ ?_⟩
    · rintro i σ H7 hi ⟨row, o5, o6, o7, o8, rfl, gs, hs7, hrl, hrh, hpp⟩
      have hi' : i < ts.length := by simpa using hi
      -- taken
      refine ⟨_, rfl, 0 + (i : Int), rfl, by omega, by omega, fun Dl hD => comp_range (lo := 0) (n := (0 + (i : Int)).toNat) (fun k ys H8 => GS t H H8 l row ∧ GS t H H8 Dl ys ∧ H8 so = some (.lst xs) ∧ ys.length ≤ k ∧ (∀ v ∈ ys, HueV v) ∧ l ≠ Dl ∧ so ≠ Dl ∧ (∀ j, j < k → mtI es j i = true → ∀ u, row[j]? = some u → u ∈ ys))
        ⟨gs.new hD, GS.lay gs.tape gs.ext hD, keepN hs7 hD, Nat.le_refl _, (fun _ h => nomatch h), ne_of_none gs.at' hD, ne_of_none hs7 hD, (fun j hj => absurd hj (Nat.not_lt_zero _))⟩ ?_ ?_⟩
      · rintro k ys H8 hk ⟨gl, gd, hs8, hyl, hyh, hld, hsd, hmt⟩
        have hk' : k < i := by omega
        refine ⟨_, rfl, _, rfl, _, rfl, w0, m, es, k, i, by simp, W0.mono (gl.ext.keepT T0), by omega, by omega, _, rfl, ?_⟩
        refine ite2 (fun _ => ?_) (fun hf => ⟨gl, gd, hs8, by omega, hyh, hld, hsd, fun j hj hm u hu => hmt j (Nat.lt_of_le_of_ne (Nat.le_of_lt_succ hj) (fun z => hf (z ▸ hm))) hm u hu⟩)
        have hget : row[k]? = some (row[k]'(by omega)) := by simp
        refine ⟨_, rfl, _, rfl, l, row, 0 + (k : Int), row[k]'(by omega), rfl, rfl, SqL.of gl.at', (by rw [Int.zero_add]; exact atI_nat hget), ?_⟩
        refine ⟨gd.at', small1000 (by omega), gl.oth (xs := []) gd.fr hld gd.ne, gd.set, keepO hs8 hsd, by rw [List.length_append, List.length_singleton]; omega, fun v hv => ?_, hld, hsd, fun j hj hm u hu => ?_⟩
        · rcases List.mem_append.mp hv with hv | hv
          · exact hyh v hv
          · rw [List.mem_singleton.mp hv]; exact hrh _ (List.getElem_mem _)
        · by_cases z : j = k
          · subst z
            rw [hget] at hu
            cases hu
            exact List.mem_append_right _ (List.mem_singleton.mpr rfl)
          · exact List.mem_append_left _ (hmt j (by omega) hm u hu)
      · rintro ys H8 ⟨gl, gd, hs8, hyl, hyh, hld, hsd, hmt⟩
        have hmt' : ∀ j, j < row.length → mtI es j row.length = true → ∀ u, row[j]? = some u → u ∈ ys := fun j hj hm u hu => hmt j (by omega) (by rw [← hrl]; exact hm) u hu
        have hyl' : ys.length ≤ 300 := by omega
        refine ⟨_, rfl, _, rfl, Dl, ys, rfl, .inl (SqL.of gd.at'), _, _, rfl, rfl, _, _, rfl, rfl, 100, _, rfl, fun pr hpr => ?_⟩
        refine ⟨pr, 100, _, rfl, upd_same, by decide, by decide, by omega, by omega, by omega, fun lr hlr => ?_⟩
        have hs9 := keepN (u := .lst (rngV 100 (100 + (ys.length : Int) + 1 - 100).toNat)) (keepN (u := .rng 100 (100 + (ys.length : Int) + 1)) hs8 hpr) hlr
        have hRl : (rngV 100 (100 + (ys.length : Int) + 1 - 100).toNat).length = ys.length + 1 := by rw [rngV_length]; omega
        refine ⟨so, lr, xs, _, rfl, rfl, hs9, upd_same, sl3 (by rw [hRl]; omega), fun lc hlc => ?_⟩
        obtain ⟨R, hR⟩ : ∃ R, rngV 100 (100 + (ys.length : Int) + 1 - 100).toNat = R := ⟨_, rfl⟩
        rw [hR] at hRl
        refine ⟨lc, rfl, ⟨_, SqL.of upd_same⟩, fun D2 hD2 => ?_⟩
        have gl2 := ((gl.new hpr).new hlr).new (o := .lst (xs ++ rngV 100 (100 + (ys.length : Int) + 1 - 100).toNat)) hlc
        have hy2 := keepN (u := .lst (xs ++ rngV 100 (100 + (ys.length : Int) + 1 - 100).toNat)) (keepN (keepN gd.at' hpr) hlr) hlc
        have hs2 := keepN (u := .lst (xs ++ rngV 100 (100 + (ys.length : Int) + 1 - 100).toNat)) hs9 hlc
        refine comp_list (K := K) (a := lc) (xs := xs ++ rngV 100 (100 + (ys.length : Int) + 1 - 100).toNat) (fun k zs H13 => GS t H H13 l row ∧ H13 Dl = some (.lst ys) ∧ H13 so = some (.lst xs) ∧ H13 lc = some (.lst (xs ++ rngV 100 (100 + (ys.length : Int) + 1 - 100).toNat)) ∧ GS t H H13 D2 zs ∧ zs.length ≤ k ∧ (∀ v ∈ zs, HueV v) ∧
            (∀ j v, j < k → (xs ++ rngV 100 (100 + (ys.length : Int) + 1 - 100).toNat)[j]? = some v → inV v ys = false → v ∈ zs) ∧ (∀ v ∈ zs, v ∉ ys) ∧ l ≠ D2 ∧ Dl ≠ D2 ∧ so ≠ D2 ∧ lc ≠ D2)
          ⟨gl2.new hD2, keepN hy2 hD2, keepN hs2 hD2, keepN upd_same hD2, GS.lay gl2.tape gl2.ext hD2, Nat.le_refl _, (fun _ h => nomatch h), (fun _ _ h => absurd h (Nat.not_lt_zero _)), (fun _ h => nomatch h), ne_of_none gl2.at' hD2, ne_of_none hy2 hD2, ne_of_none hs2 hD2, ne_of_none upd_same hD2⟩
          (fun k zs H13 _ h => SqL.of h.2.2.2.1) ?_ ?_
        · rintro k v zs H13 hv ⟨g1, y1, s1, c1, d1, zl, zh, zi, zn, e1, e2, e3, e4⟩
          rw [hR] at hv
          have hk : k < (xs ++ R).length := (List.getElem?_eq_some_iff.mp hv).1
          have hk2 : k ≤ 400 := by rw [List.length_append, hRl] at hk; omega
          have hvh : HueV v := by
            rcases List.mem_append.mp (List.mem_of_getElem? hv) with h | h
            · exact hxh v h
            · rw [← hR] at h
              obtain ⟨n, _, rfl⟩ := List.mem_map.mp (show v ∈ (List.range _).map (fun (i : Nat) => V.int (100 + (i : Int))) from h)
              exact hueV_int (by omega)
          refine ⟨_, rfl, _, rfl, Dl, ys, rfl, .inl (SqL.of y1), hvh.flat, hues_flat hyh, _, rfl, ?_⟩
          refine ite2 (fun hn => ?_) (fun hn => ⟨g1, y1, s1, c1, d1, by omega, zh, fun j u hj hu hin => ?_, zn, e1, e2, e3, e4⟩)
          · refine ⟨_, rfl, d1.at', small1000 (by omega), g1.oth (xs := []) d1.fr e1 d1.ne, keepO y1 e2, keepO s1 e3, keepO c1 e4, d1.set, by rw [List.length_append, List.length_singleton]; omega, fun u hu => ?_, fun j u hj hu hin => ?_, fun u hu => ?_, e1, e2, e3, e4⟩
            · rcases List.mem_append.mp hu with hu | hu
              · exact zh u hu
              · rw [List.mem_singleton.mp hu]; exact hvh
            · by_cases hjk : j = k
              · subst hjk
                rw [hR, hv] at hu
                cases hu
                exact List.mem_append_right _ (List.mem_singleton.mpr rfl)
              · exact List.mem_append_left _ (zi j u (by omega) hu hin)
            · rcases List.mem_append.mp hu with hu | hu
              · exact zn u hu
              · rw [List.mem_singleton.mp hu]; exact inV_mem hvh hyh (by simpa using hn)
          · by_cases hjk : j = k
            · subst hjk
              rw [hR, hv] at hu
              cases hu
              exact absurd (by simpa using hin) (by simpa using hn)
            · exact zi j u (by omega) hu hin
        · rintro zs H13 ⟨g1, y1, s1, c1, d1, zl, zh, zi, zn, e1, e2, e3, e4⟩
          have hzpos : 0 < zs.length := by
            obtain ⟨i0, hi0, hni⟩ := pigeon ys.length 100 ys (Nat.le_refl _)
            have hin : inV (.int (100 + (i0 : Int))) ys = false := by
              cases q0 : inV (.int (100 + (i0 : Int))) ys with
              | false => rfl
              | true => exact absurd (inV_int hyh q0) hni
            have hm := zi (xs.length + i0) (.int (100 + (i0 : Int))) (by rw [List.length_append, hR, hRl]; omega) (by rw [List.getElem?_append_right (Nat.le_add_right _ _), Nat.add_sub_cancel_left]; exact rng_get _ _ _ (by omega)) hin
            exact List.length_pos_of_mem hm
          have hzl : zs.length ≤ 400 := by rw [List.length_append, hR, hRl] at zl; omega
          refine ⟨_, rfl, _, rfl, _, rfl, D2, zs, rfl, .inl (SqL.of d1.at'), 2, zs.length, rfl, t, _, rfl, g1.tape, by split <;> omega, by split <;> omega, fun c H14 hc0 hc1 T14 E14 => ?_⟩
          have hcz : c.toNat < zs.length := by split at hc1 <;> omega
          have g14 := g1.draw T14 E14
          have d14 := d1.draw T14 E14
          have s14 : H14 so = some (.lst xs) := E14 _ _ son s1
          have hget : zs[c.toNat]? = some zs[c.toNat] := by simp
          refine ⟨D2, zs, c, _, rfl, rfl, SqL.of d14.at', (by have := atI_nat hget; rwa [Int.toNat_of_nonneg hc0] at this), ?_⟩
          have hhue : HueV zs[c.toNat] := zh _ (List.getElem_mem _)
          have done : ∀ (H17 : Hp) (v : V), GS t H H17 l row → H17 so = some (.lst xs) → HueV v ∧ (v = .non ∨ v ∉ ys) → GS t H (upd H17 l (.lst (row ++ [v]))) l (row ++ [v]) ∧ (upd H17 l (.lst (row ++ [v]))) so = some (.lst xs) ∧ (row ++ [v]).length = i + 1 ∧ (∀ u ∈ row ++ [v], HueV u) ∧ Prop2 es (row ++ [v]) := fun H17 v g17 s17 hv => ⟨g17.set, keepO s17 sol, by rw [List.length_append, List.length_singleton, hrl], fun u hu => by
            rcases List.mem_append.mp hu with hu | hu
            · exact hrh u hu
            · rw [List.mem_singleton.mp hu]; exact hv.1, by
            rcases hv.2 with rfl | hv2
            · exact hpp.non
            · exact hpp.add hmt' hv2⟩
          refine ⟨_, rfl, .inl ⟨rfl, _, SqL.of g14.at'⟩, _, rfl, by show 2 ≤ sizeLine; decide, fun pl hpl => ?_⟩
          have g15 := g14.new (o := .lst [zs[c.toNat], .non]) hpl
          have s15 := keepN (u := .lst [zs[c.toNat], .non]) s14 hpl
          refine ⟨_, rfl, b, rfl, ?_⟩
          have ix : ∀ k : Bool, ∃ v, atI [zs[c.toNat], V.non] (if k = true then 1 else 0) = some v ∧ HueV v ∧ (v = .non ∨ v ∉ ys) := fun k => by
            cases k
            · exact ⟨_, rfl, hhue, .inr (zn _ (List.getElem_mem _))⟩
            · exact ⟨_, rfl, .inl rfl, .inl rfl⟩
          refine ite2 (fun _ => ?_) (fun _ => ?_)
          · refine ⟨_, rfl, t, 4, rfl, g15.tape, by decide, by decide, fun d H16 hd0 hd1 T16 E16 => ?_⟩
            have g16 := g15.draw T16 E16
            obtain ⟨v, hv, hvh⟩ := ix (decide (V.int d = V.int 0))
            refine ⟨rfl, .inr ⟨_, rfl, pl, _, _, v, rfl, rfl, SqL.of (E16 _ _ (g14.tape.ne hpl) upd_same), hv, l, row, v, rfl, rfl, g16.at', small1000 (by omega), ?_⟩⟩
            exact ⟨row ++ [v], _, _, _, _, rfl, done H16 v g16 (E16 _ _ son s15) hvh⟩
          · obtain ⟨v, hv, hvh⟩ := ix false
            refine .inr ⟨false, rfl, pl, _, _, v, rfl, rfl, SqL.of upd_same, hv, l, row, v, rfl, rfl, g15.at', small1000 (by omega), ?_⟩
            exact ⟨row ++ [v], _, _, _, _, rfl, done _ v g15 s15 hvh⟩
    · rintro σ H7 ⟨row, o5, o6, o7, o8, rfl, gs, hs7, hrl, hrh, hpp⟩
      exact ⟨_, rfl, q l row _ gs (by rw [hrl]; simpa using htl) hrh hpp⟩
end
end Hue
set_option Elab.async false
set_option linter.all false
set_option maxRecDepth 100000
set_option maxHeartbeats 1000000
namespace Hue
open PySem L2
def natV (n : Nat) : V := .int (n : Int)
def optV : Option Nat → V
  | none => .non
  | some k => natV k
def atH (es : List (Int × Int)) (row : List V) (p h : Int) (k : Nat) : Bool := match es[k]? with
  | some e => atE p e && decide (row[k]? = some (.int h))
  | none => false
theorem atE_iff {p : Int} {e : Int × Int} : atE p e = true ↔ p = e.1 ∨ p = e.2 := by
  unfold atE
  rw [Bool.or_eq_true, beq_iff_eq, beq_iff_eq]
  exact ⟨fun h => h.imp Eq.symm Eq.symm, fun h => h.imp Eq.symm Eq.symm⟩
theorem atH_iff {es : List (Int × Int)} {row : List V} {p h : Int} {k : Nat} : atH es row p h k = true ↔ ∃ e, es[k]? = some e ∧ (p = e.1 ∨ p = e.2) ∧ row[k]? = some (.int h) := by
  unfold atH
  cases q : es[k]? with
  | none => simp
  | some e => simp [atE_iff]
theorem uniq {es : List (Int × Int)} {row : List V} (P2 : Prop2 es row) (hl : row.length = es.length) {p h : Int} {k j : Nat} (h1 : atH es row p h k = true) (h2 : atH es row p h j = true) : k = j := by
  obtain ⟨e, e1, e2, e3⟩ := atH_iff.mp h1
  obtain ⟨f, f1, f2, f3⟩ := atH_iff.mp h2
  have lk := (List.getElem?_eq_some_iff.mp e3).1
  have lj := (List.getElem?_eq_some_iff.mp f3).1
  have meet : ∀ {a b : Nat} {x y : Int × Int}, es[a]? = some x → es[b]? = some y → (p = x.1 ∨ p = x.2) → (p = y.1 ∨ p = y.2) → mtI es a b = true := by
    intro a b x y ha hb hx hy
    unfold mtI
    rw [ha, hb]
    show mtE x y = true
    unfold mtE
    rw [Bool.or_eq_true]
    rcases hx with hx | hx
    · exact .inl (by rw [← hx]; exact atE_iff.mpr hy)
    · exact .inr (by rw [← hx]; exact atE_iff.mpr hy)
  rcases Nat.lt_trichotomy k j with q | q | q
  · exact absurd f3 (P2 k j q lj (meet e1 f1 e2 f2) h e3)
  · exact q
  · exact absurd e3 (P2 j k q lk (meet f1 e1 f2 e2) h f3)
def farI (es : List (Int × Int)) (k : Nat) (p : Int) : Int := match es[k]? with
  | some e => e.1 + e.2 - p
  | none => p
def hueO (row : List V) (k : Nat) : Option Int := match row[k]? with
  | some (.int h) => some h
  | _ => none
theorem hueO_iff {row : List V} {k : Nat} {h : Int} : hueO row k = some h ↔ row[k]? = some (.int h) := by
  unfold hueO
  split
  · rename_i e; rw [e]; simp
  · rename_i e
    constructor
    · intro z; cases z
    · intro z; exact absurd z (e h)
def hsL (es : List (Int × Int)) (row : List V) (q : Int) : Nat → List V
  | 0 => []
  | n + 1 => hsL es row q n ++ (match es[n]?, hueO row n with
    | some e, some h => if atE q e = true then [.int h] else []
    | _, _ => [])
theorem hsL_len (es : List (Int × Int)) (row : List V) (q : Int) : ∀ n, (hsL es row q n).length ≤ n
  | 0 => Nat.le_refl _
  | n + 1 => by
    have := hsL_len es row q n
    rw [hsL, List.length_append]
    split
    · split <;> simp <;> omega
    · simp; omega
theorem hsL_mem {es : List (Int × Int)} {row : List V} {q h : Int} : ∀ {n : Nat}, V.int h ∈ hsL es row q n ↔ ∃ k, k < n ∧ atH es row q h k = true
  | 0 => by simp [hsL]
  | n + 1 => by
    have ih := hsL_mem (es := es) (row := row) (q := q) (h := h) (n := n)
    have key : V.int h ∈ (match es[n]?, hueO row n with
        | some e, some h => if atE q e = true then [V.int h] else []
        | _, _ => []) ↔ atH es row q h n = true := by
      unfold atH
      cases e1 : es[n]? with
      | none => simp
      | some e =>
        cases e2 : hueO row n with
        | none =>
          constructor
          · intro z; cases z
          · intro z
            simp only [Bool.and_eq_true, decide_eq_true_eq] at z
            rw [hueO_iff.mpr z.2] at e2; cases e2
        | some g =>
          have e3 := hueO_iff.mp e2
          simp only [e3]
          by_cases za : atE q e = true
          · simp [za]; exact eq_comm
          · simp [za]
    rw [hsL, List.mem_append, ih, key]
    constructor
    · rintro (⟨k, hk, ha⟩ | ha)
      · exact ⟨k, by omega, ha⟩
      · exact ⟨n, by omega, ha⟩
    · rintro ⟨k, hk, ha⟩
      by_cases z : k = n
      · exact .inr (z ▸ ha)
      · exact .inl ⟨k, by omega, ha⟩
theorem hsL_int {es : List (Int × Int)} {row : List V} {q : Int} : ∀ {n : Nat} {v : V}, v ∈ hsL es row q n → ∃ h, v = .int h
  | 0, v, h => by cases h
  | n + 1, v, h => by
    rw [hsL, List.mem_append] at h
    rcases h with h | h
    · exact hsL_int h
    · split at h
      · split at h
        · exact ⟨_, by simpa using h⟩
        · cases h
      · cases h
theorem hsL_flat (es : List (Int × Int)) (row : List V) (q : Int) (n : Nat) : (hsL es row q n).all flatV = true := List.all_eq_true.mpr fun v hv => by obtain ⟨h, rfl⟩ := hsL_int hv; rfl
theorem inV_hs {ys : List V} {h : Int} (hy : ∀ v ∈ ys, ∃ n, v = V.int n) : inV (.int h) ys = true ↔ V.int h ∈ ys := by
  unfold inV
  rw [List.any_eq_true]
  constructor
  · rintro ⟨v, hv, e⟩
    obtain ⟨n, rfl⟩ := hy v hv
    have : n = h := by simpa [eqV] using e
    rw [← this]; exact hv
  · intro z; exact ⟨_, z, by simp [eqV]⟩
theorem atH_lt {es : List (Int × Int)} {row : List V} {q h : Int} {k : Nat} (a : atH es row q h k = true) : k < es.length := by
  obtain ⟨e, h1, _⟩ := atH_iff.mp a
  exact (List.getElem?_eq_some_iff.mp h1).1
theorem noH_iff {es : List (Int × Int)} {row : List V} {q h : Int} : inV (.int h) (hsL es row q es.length) = false ↔ ∀ k, atH es row q h k = false := by
  rw [← Bool.not_eq_true, inV_hs fun v hv => hsL_int hv, hsL_mem]
  constructor
  · intro z k
    cases e : atH es row q h k with
    | false => rfl
    | true => exact absurd ⟨k, atH_lt e, e⟩ z
  · rintro z ⟨k, _, e⟩
    rw [z k] at e; cases e
abbrev Fan := List (Nat × Option Nat)
def okB (es : List (Int × Int)) (row : List V) (p hh : Int) (F : Fan) (o i : Nat) : Bool := match hueO row o, F[i]? with
  | some h, some f => decide (h < hh) && !inV (.int h) (hsL es row (farI es f.1 p) es.length)
  | _, _ => false
def backs (es : List (Int × Int)) (row : List V) (p hh : Int) (F : Fan) (o : Nat) : Nat → List Nat
  | 0 => []
  | n + 1 => backs es row p hh F o n ++ (if okB es row p hh F o n = true then [n] else [])
def nextF (es : List (Int × Int)) (row : List V) (p hh : Int) (F : Fan) : List Nat → Option (Nat × Nat)
  | [] => none
  | o :: near => match backs es row p hh F o F.length with
    | [] => nextF es row p hh F near
    | b :: _ => some (o, b)
def fanL (es : List (Int × Int)) (row : List V) (p hh : Int) : Nat → Fan → List Nat → Fan
  | 0, F, _ => F
  | n + 1, F, near => match nextF es row p hh F near with
    | none => F
    | some (o, b) => fanL es row p hh n (F ++ [(o, some b)]) (near.erase o)
def Hued (es : List (Int × Int)) (row : List V) (p : Int) (t : Nat) : Prop := (∃ e, es[t]? = some e ∧ (p = e.1 ∨ p = e.2)) ∧ ∃ h, row[t]? = some (.int h)
structure FanOk (es : List (Int × Int)) (row : List V) (p : Int) (F : Fan) : Prop where
  z : ∃ t, F[0]? = some (t, none) ∧ row[t]? = some .non
  s : ∀ i f, F[i + 1]? = some f → ∃ b h g, f.2 = some b ∧ b < i + 1 ∧ row[f.1]? = some (.int h) ∧ F[b]? = some g ∧ ∀ k, atH es row (farI es g.1 p) h k = false
  a : ∀ f ∈ F, ∃ e, es[f.1]? = some e ∧ (p = e.1 ∨ p = e.2)
  n : (F.map (·.1)).Nodup
structure NearOk (es : List (Int × Int)) (row : List V) (p : Int) (F : Fan) (near : List Nat) : Prop where
  h : ∀ o ∈ near, Hued es row p o
  o : ∀ o ∈ near, o ∉ F.map (·.1)
  n : near.Nodup
theorem backs_mem {es : List (Int × Int)} {row : List V} {p hh : Int} {F : Fan} {o : Nat} : ∀ {n i : Nat}, i ∈ backs es row p hh F o n → i < n ∧ okB es row p hh F o i = true
  | 0, i, h => by cases h
  | n + 1, i, h => by
    rw [backs, List.mem_append] at h
    rcases h with h | h
    · obtain ⟨h1, h2⟩ := backs_mem h
      exact ⟨by omega, h2⟩
    · split at h
      · rename_i z
        have : i = n := by simpa using h
        subst this
        exact ⟨by omega, z⟩
      · cases h
theorem backs_len (es : List (Int × Int)) (row : List V) (p hh : Int) (F : Fan) (o : Nat) : ∀ n, (backs es row p hh F o n).length ≤ n
  | 0 => Nat.le_refl _
  | n + 1 => by
    have := backs_len es row p hh F o n
    rw [backs, List.length_append]
    split <;> simp <;> omega
theorem nextF_some {es : List (Int × Int)} {row : List V} {p hh : Int} {F : Fan} {o b : Nat} : ∀ {near : List Nat}, nextF es row p hh F near = some (o, b) → o ∈ near ∧ b < F.length ∧ okB es row p hh F o b = true
  | [], h => by cases h
  | x :: near, h => by
    unfold nextF at h
    split at h
    · obtain ⟨h1, h2⟩ := nextF_some h
      exact ⟨List.mem_cons_of_mem _ h1, h2⟩
    · rename_i c r e
      cases h
      have := backs_mem (es := es) (row := row) (p := p) (hh := hh) (F := F) (o := o) (n := F.length) (i := b) (by rw [e]; exact List.mem_cons_self ..)
      exact ⟨List.mem_cons_self .., this⟩
theorem okB_iff {es : List (Int × Int)} {row : List V} {p hh : Int} {F : Fan} {o i : Nat} (h : okB es row p hh F o i = true) : ∃ c f, row[o]? = some (.int c) ∧ F[i]? = some f ∧ ∀ k, atH es row (farI es f.1 p) c k = false := by
  unfold okB at h
  split at h
  · rename_i c f e1 e2
    simp only [Bool.and_eq_true, Bool.not_eq_true'] at h
    exact ⟨c, f, hueO_iff.mp e1, e2, noH_iff.mp h.2⟩
  · cases h
theorem fanL_ok {es : List (Int × Int)} {row : List V} {p hh : Int} : ∀ {n : Nat} {F : Fan} {near : List Nat}, FanOk es row p F → NearOk es row p F near → FanOk es row p (fanL es row p hh n F near)
  | 0, F, near, h, _ => h
  | n + 1, F, near, h, g => by
    unfold fanL
    split
    · exact h
    · rename_i o b e
      obtain ⟨h1, h2, h3⟩ := nextF_some e
      obtain ⟨c, f, c1, c2, c3⟩ := okB_iff h3
      refine fanL_ok ⟨?_, ?_, ?_, ?_⟩ ⟨?_, ?_, ?_⟩
      · obtain ⟨t, t1, t2⟩ := h.z
        exact ⟨t, by rw [List.getElem?_append_left (List.getElem?_eq_some_iff.mp t1).1]; exact t1, t2⟩
      · intro i f' hf
        by_cases hi : i + 1 < F.length
        · rw [List.getElem?_append_left hi] at hf
          obtain ⟨b', h', g', x1, x2, x3, x4, x5⟩ := h.s i f' hf
          exact ⟨b', h', g', x1, x2, x3, by rw [List.getElem?_append_left (List.getElem?_eq_some_iff.mp x4).1]; exact x4, x5⟩
        · have hl := (List.getElem?_eq_some_iff.mp hf).1
          rw [List.length_append] at hl
          have hi' : i + 1 = F.length := by simp at hl; omega
          rw [hi', List.getElem?_append_right (Nat.le_refl _)] at hf
          have : f' = (o, some b) := by simpa using hf.symm
          subst this
          exact ⟨b, c, f, rfl, by omega, c1, by rw [List.getElem?_append_left h2]; exact c2, c3⟩
      · intro f' hf
        rcases List.mem_append.mp hf with hf | hf
        · exact h.a f' hf
        · rw [List.mem_singleton.mp hf]; exact (g.h o h1).1
      · rw [List.map_append, List.nodup_append]
        refine ⟨h.n, by simp, fun x hx y hy => ?_⟩
        have : y = o := by simpa using hy
        subst this
        intro z; subst z
        exact g.o _ h1 hx
      · intro x hx; exact g.h x (List.mem_of_mem_erase hx)
      · intro x hx
        rw [List.map_append, List.mem_append]
        rintro (z | z)
        · exact g.o x (List.mem_of_mem_erase hx) z
        · have : x = o := by simpa using z
          subst this
          exact (List.Nodup.not_mem_erase g.n) hx
      · exact g.n.erase _
theorem fanL_len {es : List (Int × Int)} {row : List V} {p hh : Int} : ∀ {n : Nat} {F : Fan} {near : List Nat}, (fanL es row p hh n F near).length ≤ F.length + n
  | 0, F, near => Nat.le_refl _
  | n + 1, F, near => by
    unfold fanL
    split
    · omega
    · refine Nat.le_trans fanL_len ?_
      simp; omega
def chn (F : Fan) : Nat → Nat → List Nat
  | 0, _ => []
  | n + 1, i => i :: (match F[i]? with
    | some (_, some b) => chn F n b
    | _ => [])
theorem chn_fuel {es : List (Int × Int)} {row : List V} {p : Int} {F : Fan} (O : FanOk es row p F) : ∀ {n m i : Nat}, i < n → i < m → chn F n i = chn F m i
  | 0, m, i, h, _ => absurd h (Nat.not_lt_zero _)
  | n + 1, 0, i, _, h => absurd h (Nat.not_lt_zero _)
  | n + 1, m + 1, i, h1, h2 => by
    unfold chn
    congr 1
    split
    · rename_i t b e
      have : b < i := by
        cases i with
        | zero =>
          obtain ⟨t', e', _⟩ := O.z
          rw [e'] at e; cases e
        | succ i =>
          obtain ⟨b', _, _, x1, x2, _⟩ := O.s i _ e
          cases x1; exact x2
      exact chn_fuel O (by omega) (by omega)
    · rfl
def tieF (F : Fan) (i : Nat) : Nat := (F.getD i (0, none)).1
def wayF (F : Fan) (i : Nat) : List Nat := (chn F (i + 1) i).reverse.map (tieF F)
theorem wayF_none {F : Fan} {i t : Nat} (e : F[i]? = some (t, none)) : wayF F i = [t] := by
  unfold wayF chn
  rw [e]
  simp [tieF, List.getD_eq_getElem?_getD, e]
theorem wayF_some {es : List (Int × Int)} {row : List V} {p : Int} {F : Fan} (O : FanOk es row p F) {i t b : Nat} (e : F[i]? = some (t, some b)) (hb : b < i) : wayF F i = wayF F b ++ [t] := by
  have : chn F (i + 1) i = i :: chn F (b + 1) b := by
    rw [chn, e]
    show i :: chn F i b = _
    rw [chn_fuel O hb (Nat.lt_succ_self b)]
  unfold wayF
  rw [this, List.reverse_cons, List.map_append]
  simp [tieF, List.getD_eq_getElem?_getD, e]
structure Ch (es : List (Int × Int)) (row : List V) (p : Int) (way : List Nat) : Prop where
  n : way.Nodup
  a : ∀ t ∈ way, ∃ e, es[t]? = some e ∧ (p = e.1 ∨ p = e.2)
  z : ∃ t, way[0]? = some t ∧ row[t]? = some .non
  s : ∀ i x y, way[i]? = some x → way[i + 1]? = some y → ∃ h, row[y]? = some (.int h) ∧ ∀ k, atH es row (farI es x p) h k = false
theorem way_ok {es : List (Int × Int)} {row : List V} {p : Int} {F : Fan} (O : FanOk es row p F) : ∀ (n i : Nat), i < n → ∀ (f : Nat × Option Nat), F[i]? = some f → Ch es row p (wayF F i) ∧ (wayF F i)[(wayF F i).length - 1]? = some f.1 ∧ 0 < (wayF F i).length ∧ (wayF F i).length ≤ i + 1 ∧ ∀ t ∈ wayF F i, ∃ j g, j ≤ i ∧ F[j]? = some g ∧ g.1 = t
  | 0, i, h => absurd h (Nat.not_lt_zero _)
  | n + 1, i, hin => by
    intro f e
    cases i with
    | zero =>
      obtain ⟨t, e', ht⟩ := O.z
      rw [e'] at e
      cases e
      rw [wayF_none e']
      refine ⟨⟨by simp, fun x hx => ?_, ⟨t, rfl, ht⟩, fun i x y hx hy => by simp at hy⟩, rfl, by simp, by simp, fun x hx => ?_⟩
      · rw [List.mem_singleton.mp hx]; exact O.a _ (List.mem_of_getElem? e')
      · exact ⟨0, _, Nat.le_refl _, e', (List.mem_singleton.mp hx).symm⟩
    | succ i =>
      obtain ⟨b, h, g, x1, x2, x3, x4, x5⟩ := O.s i f e
      obtain ⟨t, ob⟩ := f
      simp only at x1 x3
      subst x1
      rw [wayF_some O e x2]
      obtain ⟨C, l1, l2, l3, l4⟩ := way_ok O n b (by omega) _ x4
      have nin : t ∉ wayF F b := fun z => by
        obtain ⟨j, g', j1, j2, j3⟩ := l4 t z
        have a1 : (F.map (·.1))[j]? = some t := by rw [List.getElem?_map, j2]; simp [j3]
        have a2 : (F.map (·.1))[i + 1]? = some t := by rw [List.getElem?_map, e]; rfl
        have : j = i + 1 := by
          obtain ⟨p1, q1⟩ := List.getElem?_eq_some_iff.mp a1
          obtain ⟨p2, q2⟩ := List.getElem?_eq_some_iff.mp a2
          exact (List.getElem_inj O.n).mp (q1.trans q2.symm)
        omega
      refine ⟨⟨?_, ?_, ?_, ?_⟩, ?_, ?_, ?_, ?_⟩
      · rw [List.nodup_append]
        refine ⟨C.n, by simp, fun x hx y hy => ?_⟩
        have : y = t := by simpa using hy
        subst this
        intro z; subst z
        exact nin hx
      · intro x hx
        rcases List.mem_append.mp hx with hx | hx
        · exact C.a x hx
        · rw [List.mem_singleton.mp hx]; exact O.a _ (List.mem_of_getElem? e)
      · obtain ⟨t0, z1, z2⟩ := C.z
        exact ⟨t0, by rw [List.getElem?_append_left l2]; exact z1, z2⟩
      · intro j x y hx hy
        by_cases hj : j + 1 < (wayF F b).length
        · rw [List.getElem?_append_left hj] at hy
          rw [List.getElem?_append_left (by omega)] at hx
          exact C.s j x y hx hy
        · have hl := (List.getElem?_eq_some_iff.mp hy).1
          rw [List.length_append] at hl
          simp at hl
          have hj' : j + 1 = (wayF F b).length := by omega
          rw [hj', List.getElem?_append_right (Nat.le_refl _)] at hy
          have : y = t := by simpa using hy.symm
          subst this
          rw [List.getElem?_append_left (by omega), show j = (wayF F b).length - 1 by omega, l1] at hx
          cases hx
          exact ⟨h, x3, x5⟩
      · rw [List.length_append]
        show (wayF F b ++ [t])[(wayF F b).length + 1 - 1]? = _
        rw [Nat.add_sub_cancel, List.getElem?_append_right (Nat.le_refl _)]
        simp
      · simp
      · rw [List.length_append]; simp; omega
      · intro x hx
        rcases List.mem_append.mp hx with hx | hx
        · obtain ⟨j, g', j1, j2, j3⟩ := l4 x hx
          exact ⟨j, g', by omega, j2, j3⟩
        · exact ⟨i + 1, _, Nat.le_refl _, e, (List.mem_singleton.mp hx).symm⟩
structure RowJ (row : List V) (way : List Nat) (j : Nat) (r : List V) : Prop where
  len : r.length = row.length
  lo : ∀ i x y, i < j → way[i]? = some x → way[i + 1]? = some y → r[x]? = row[y]?
  md : ∀ x, way[j]? = some x → r[x]? = some .non
  hi : ∀ k, (∀ i, i ≤ j → way[i]? ≠ some k) → r[k]? = row[k]?
theorem nd_ix {way : List Nat} (h : way.Nodup) {i j x : Nat} (hi : way[i]? = some x) (hj : way[j]? = some x) : i = j := by
  obtain ⟨p1, q1⟩ := List.getElem?_eq_some_iff.mp hi
  obtain ⟨p2, q2⟩ := List.getElem?_eq_some_iff.mp hj
  exact (List.getElem_inj h).mp (q1.trans q2.symm)
theorem RowJ.zero {es : List (Int × Int)} {row : List V} {p : Int} {way : List Nat} (C : Ch es row p way) : RowJ row way 0 row := by
  refine ⟨rfl, fun i x y h => absurd h (Nat.not_lt_zero _), fun x hx => ?_, fun k _ => rfl⟩
  obtain ⟨t, t1, t2⟩ := C.z
  rw [t1] at hx; cases hx; exact t2
theorem RowJ.step {row r : List V} {way : List Nat} {j x y : Nat} {v : V} (R : RowJ row way j r) (hn : way.Nodup) (hx : way[j]? = some x) (hy : way[j + 1]? = some y) (hv : row[y]? = some v) (lx : x < row.length) : RowJ row way (j + 1) ((r.set y .non).set x v) := by
  have ly : y < row.length := (List.getElem?_eq_some_iff.mp hv).1
  have xy : x ≠ y := fun z => by subst z; have := nd_ix hn hx hy; omega
  refine ⟨by simp [R.len], fun i a b hi ha hb => ?_, fun a ha => ?_, fun k hk => ?_⟩
  · by_cases z : i = j
    · subst z
      rw [hx] at ha; cases ha
      rw [hy] at hb; cases hb
      rw [List.getElem?_set_self (by simp [R.len]; exact lx), hv]
    · have ax : a ≠ x := fun z2 => by subst z2; exact z (nd_ix hn ha hx)
      have ay : a ≠ y := fun z2 => by subst z2; have := nd_ix hn ha hy; omega
      rw [List.getElem?_set_ne (Ne.symm ax), List.getElem?_set_ne (Ne.symm ay)]
      exact R.lo i a b (by omega) ha hb
  · rw [hy] at ha; cases ha
    rw [List.getElem?_set_ne xy, List.getElem?_set_self (by rw [R.len]; exact ly)]
  · have kx : k ≠ x := fun z => by subst z; exact hk j (by omega) hx
    have ky : k ≠ y := fun z => by subst z; exact hk (j + 1) (Nat.le_refl _) hy
    rw [List.getElem?_set_ne (Ne.symm kx), List.getElem?_set_ne (Ne.symm ky)]
    exact R.hi k fun i hi => hk i (by omega)
theorem prop2_new {es : List (Int × Int)} {row r : List V} {p : Int} (P2 : Prop2 es row) (hl : row.length = es.length) (hr : r.length = es.length) (S : Nat → Int → Prop) (Out : Nat → Prop)
    (ha : ∀ a h, S a h → ∃ e, es[a]? = some e ∧ (p = e.1 ∨ p = e.2)) (hf : ∀ a h, S a h → ∀ k, atH es row (farI es a p) h k = false) (ho : ∀ a h, S a h → ∀ k, atH es row p h k = true → Out k) (hu : ∀ a b h, S a h → S b h → a = b)
    (hs : ∀ a h, r[a]? = some (.int h) → (row[a]? = some (.int h) ∧ ¬ Out a) ∨ S a h) : Prop2 es r := by
  intro a b hab hb hm n na nb
  unfold mtI at hm
  split at hm
  case h_2 => cases hm
  rename_i e f e1 e2
  obtain ⟨q, qa, qb⟩ : ∃ q, (q = e.1 ∨ q = e.2) ∧ (q = f.1 ∨ q = f.2) := by
    unfold mtE at hm
    rw [Bool.or_eq_true] at hm
    rcases hm with hm | hm
    · exact ⟨e.1, .inl rfl, atE_iff.mp hm⟩
    · exact ⟨e.2, .inr rfl, atE_iff.mp hm⟩
  have mix : ∀ (x y : Nat) (ex ey : Int × Int), es[x]? = some ex → es[y]? = some ey → (q = ex.1 ∨ q = ex.2) → (q = ey.1 ∨ q = ey.2) → row[x]? = some (.int n) → ¬ Out x → S y n → False := by
    intro x y ex ey hx hy qx qy rx ox sy
    obtain ⟨e', h1, h2⟩ := ha y n sy
    rw [hy] at h1; cases h1
    by_cases z : q = p
    · subst z
      exact ox (ho y n sy x (atH_iff.mpr ⟨ex, hx, qx, rx⟩))
    · have : farI es y p = q := by
        unfold farI
        rw [hy]
        show ey.1 + ey.2 - p = q
        rcases h2 with h2 | h2 <;> rcases qy with qy | qy <;> omega
      have h3 := hf y n sy x
      rw [this, atH_iff.mpr ⟨ex, hx, qx, rx⟩] at h3
      cases h3
  rcases hs a n na with ⟨ra, oa⟩ | sa
  · rcases hs b n nb with ⟨rb, ob⟩ | sb
    · have := uniq P2 hl (atH_iff.mpr ⟨e, e1, qa, ra⟩) (atH_iff.mpr ⟨f, e2, qb, rb⟩)
      omega
    · exact mix a b e f e1 e2 qa qb ra oa sb
  · rcases hs b n nb with ⟨rb, ob⟩ | sb
    · exact mix b a f e e2 e1 qb qa rb ob sa
    · have := hu a b n sa sb
      omega
def Sj (row : List V) (way : List Nat) (j : Nat) (a : Nat) (h : Int) : Prop := ∃ i y, i < j ∧ way[i]? = some a ∧ way[i + 1]? = some y ∧ row[y]? = some (.int h)
theorem Sj.at {es : List (Int × Int)} {row : List V} {p : Int} {way : List Nat} (C : Ch es row p way) {j a : Nat} {h : Int} (s : Sj row way j a h) : ∃ e, es[a]? = some e ∧ (p = e.1 ∨ p = e.2) := let ⟨_, _, _, x, _⟩ := s; C.a a (List.mem_of_getElem? x)
theorem Sj.far {es : List (Int × Int)} {row : List V} {p : Int} {way : List Nat} (C : Ch es row p way) {j a : Nat} {h : Int} (s : Sj row way j a h) : ∀ k, atH es row (farI es a p) h k = false := by
  obtain ⟨i, y, hi, ha, hy, hr⟩ := s
  obtain ⟨h', x1, x2⟩ := C.s i a y ha hy
  rw [hr] at x1; cases x1; exact x2
theorem Sj.tie {es : List (Int × Int)} {row : List V} {p : Int} {way : List Nat} (C : Ch es row p way) (P2 : Prop2 es row) (hl : row.length = es.length) {j a : Nat} {h : Int} (s : Sj row way j a h) {k : Nat} (hk : atH es row p h k = true) : ∃ i, i < j ∧ way[i]? = some a ∧ way[i + 1]? = some k := by
  obtain ⟨i, y, hi, ha, hy, hr⟩ := s
  obtain ⟨e, e1, e2⟩ := C.a y (List.mem_of_getElem? hy)
  have := uniq P2 hl hk (atH_iff.mpr ⟨e, e1, e2, hr⟩)
  subst this
  exact ⟨i, hi, ha, hy⟩
theorem Sj.one {es : List (Int × Int)} {row : List V} {p : Int} {way : List Nat} (C : Ch es row p way) (P2 : Prop2 es row) (hl : row.length = es.length) {j a b : Nat} {h : Int} (s : Sj row way j a h) (s' : Sj row way j b h) : a = b := by
  obtain ⟨i, y, hi, ha, hy, hr⟩ := id s'
  obtain ⟨e, e1, e2⟩ := C.a y (List.mem_of_getElem? hy)
  obtain ⟨i2, hi2, ha2, hy2⟩ := s.tie C P2 hl (atH_iff.mpr ⟨e, e1, e2, hr⟩)
  have : i2 + 1 = i + 1 := nd_ix C.n hy2 hy
  have : i2 = i := by omega
  subst this
  rw [ha2] at ha
  exact Option.some.inj ha
theorem RowJ.src {es : List (Int × Int)} {row r : List V} {p : Int} {way : List Nat} {j : Nat} (C : Ch es row p way) (R : RowJ row way j r) (hj : j < way.length) {a : Nat} {h : Int} (e : r[a]? = some (.int h)) : (row[a]? = some (.int h) ∧ ¬ ∃ i, i ≤ j ∧ way[i]? = some a) ∨ Sj row way j a h := by
  by_cases z : ∃ i, i ≤ j ∧ way[i]? = some a
  · obtain ⟨i, hi, ha⟩ := z
    by_cases q : i = j
    · subst q
      rw [R.md a ha] at e; cases e
    · have hlt : i + 1 < way.length := by omega
      have hy : way[i + 1]? = some (way[i + 1]'hlt) := by simp
      refine .inr ⟨i, _, by omega, ha, hy, ?_⟩
      rw [← R.lo i a _ (by omega) ha hy]; exact e
  · refine .inl ⟨?_, z⟩
    rw [← R.hi a fun i hi q => z ⟨i, hi, q⟩]; exact e
theorem RowJ.prop {es : List (Int × Int)} {row r : List V} {p : Int} {way : List Nat} {j : Nat} (C : Ch es row p way) (P2 : Prop2 es row) (hl : row.length = es.length) (R : RowJ row way j r) (hj : j < way.length) : Prop2 es r :=
  prop2_new (p := p) P2 hl (by rw [R.len, hl]) (Sj row way j) (fun k => ∃ i, i ≤ j ∧ way[i]? = some k) (fun _ _ s => s.at C) (fun _ _ s => s.far C)
    (fun a h s k hk => let ⟨i, hi, _, h2⟩ := s.tie C P2 hl hk; ⟨i + 1, by omega, h2⟩) (fun _ _ _ s s' => s.one C P2 hl s') fun _ _ e => R.src C hj e
theorem RowJ.last {es : List (Int × Int)} {row r : List V} {p c : Int} {way : List Nat} {x : Nat} (C : Ch es row p way) (P2 : Prop2 es row) (hl : row.length = es.length) (R : RowJ row way (way.length - 1) r) (h0 : 0 < way.length) (hx : way[way.length - 1]? = some x) (cp : ∀ k, atH es row p c k = false) (cf : ∀ k, atH es row (farI es x p) c k = false) : Prop2 es (r.set x (.int c)) := by
  obtain ⟨ex, ex1, ex2⟩ := C.a x (List.mem_of_getElem? hx)
  have lx : x < r.length := by rw [R.len, hl]; exact (List.getElem?_eq_some_iff.mp ex1).1
  refine prop2_new (p := p) P2 hl (by rw [List.length_set, R.len, hl]) (fun a h => Sj row way (way.length - 1) a h ∨ (a = x ∧ h = c)) (fun k => ∃ i, i ≤ way.length - 1 ∧ way[i]? = some k) ?_ ?_ ?_ ?_ ?_
  · rintro a h (s | ⟨rfl, rfl⟩)
    · exact s.at C
    · exact ⟨ex, ex1, ex2⟩
  · rintro a h (s | ⟨rfl, rfl⟩)
    · exact s.far C
    · exact cf
  · rintro a h (s | ⟨rfl, rfl⟩) k hk
    · obtain ⟨i, hi, _, h2⟩ := s.tie C P2 hl hk
      exact ⟨i + 1, by omega, h2⟩
    · rw [cp k] at hk; cases hk
  · have no : ∀ a, ¬ Sj row way (way.length - 1) a c := by
      rintro a ⟨i, y, hi, ha, hy, hr⟩
      obtain ⟨e, e1, e2⟩ := C.a y (List.mem_of_getElem? hy)
      have := cp y
      rw [atH_iff.mpr ⟨e, e1, e2, hr⟩] at this
      cases this
    rintro a b h (s | ⟨ea, eh⟩) (s' | ⟨eb, eh'⟩)
    · exact s.one C P2 hl s'
    · subst eh'; exact absurd s (no _)
    · subst eh; exact absurd s' (no _)
    · rw [ea, eb]
  · intro a h e
    by_cases z : a = x
    · subst z
      rw [List.getElem?_set_self lx] at e
      cases e
      exact .inr (.inr ⟨rfl, rfl⟩)
    · rw [List.getElem?_set_ne (Ne.symm z)] at e
      exact (R.src C (by omega) e).imp id .inl
def nones (row : List V) : Nat → List Nat
  | 0 => []
  | n + 1 => nones row n ++ (if row[n]? = some .non then [n] else [])
theorem nones_eq (row : List V) : ∀ n, nones row n = (List.range n).filter fun k => decide (row[k]? = some .non)
  | 0 => rfl
  | n + 1 => by
    rw [nones, nones_eq row n, List.range_succ, List.filter_append]
    congr 1
    by_cases z : row[n]? = some .non
    · simp [z]
    · simp [z]
theorem nones_len (row : List V) (n : Nat) : (nones row n).length ≤ n := by
  rw [nones_eq]; exact Nat.le_trans (List.length_filter_le _ _) (by simp)
theorem last_nones {es : List (Int × Int)} {row r : List V} {p c : Int} {way : List Nat} {x : Nat} (C : Ch es row p way) (hl : row.length = es.length) (R : RowJ row way (way.length - 1) r) (h0 : 0 < way.length) (hx : way[way.length - 1]? = some x) :
    (nones (r.set x (.int c)) es.length).length + 1 = (nones row es.length).length ∧ ∀ k ∈ nones (r.set x (.int c)) es.length, k ∈ nones row es.length := by
  obtain ⟨t, t1, t2⟩ := C.z
  obtain ⟨ex, ex1, _⟩ := C.a x (List.mem_of_getElem? hx)
  have lx : x < r.length := by rw [R.len, hl]; exact (List.getElem?_eq_some_iff.mp ex1).1
  have iff : ∀ k, (r.set x (.int c))[k]? = some .non ↔ row[k]? = some .non ∧ k ≠ t := by
    intro k
    by_cases zx : k = x
    · subst zx
      rw [List.getElem?_set_self lx]
      constructor
      · intro z; cases z
      · rintro ⟨z1, z2⟩
        by_cases q : way.length - 1 = 0
        · rw [q, t1] at hx; cases hx; exact absurd rfl z2
        · have hlt : way.length - 1 - 1 < way.length := by omega
          have hy : way[way.length - 1 - 1]? = some (way[way.length - 1 - 1]'hlt) := by simp
          obtain ⟨h, x1, _⟩ := C.s _ _ k hy (by rw [show way.length - 1 - 1 + 1 = way.length - 1 by omega]; exact hx)
          rw [x1] at z1; cases z1
    · rw [List.getElem?_set_ne (Ne.symm zx)]
      by_cases q : ∃ i, i ≤ way.length - 1 ∧ way[i]? = some k
      · obtain ⟨i, hi, hk⟩ := q
        have hne : i ≠ way.length - 1 := fun z => by subst z; rw [hx] at hk; cases hk; exact zx rfl
        have hlt : i + 1 < way.length := by omega
        have hy : way[i + 1]? = some (way[i + 1]'hlt) := by simp
        obtain ⟨h, x1, _⟩ := C.s i k _ hk hy
        rw [R.lo i k _ (by omega) hk hy, x1]
        constructor
        · intro z; cases z
        · rintro ⟨z1, z2⟩
          cases i with
          | zero => rw [t1] at hk; cases hk; exact absurd rfl z2
          | succ i =>
            have hlt2 : i < way.length := by omega
            have hw : way[i]? = some (way[i]'hlt2) := by simp
            obtain ⟨h', x1', _⟩ := C.s i _ k hw hk
            rw [x1'] at z1; cases z1
      · rw [R.hi k fun i hi z => q ⟨i, hi, z⟩]
        constructor
        · intro z
          exact ⟨z, fun z2 => q ⟨0, by omega, by rw [z2]; exact t1⟩⟩
        · intro z; exact z.1
  have tl : t < es.length := by
    obtain ⟨e, e1, _⟩ := C.a t (List.mem_of_getElem? t1)
    exact (List.getElem?_eq_some_iff.mp e1).1
  have e1 : nones (r.set x (.int c)) es.length = (nones row es.length).filter (fun k => k != t) := by
    rw [nones_eq, nones_eq, List.filter_filter]
    refine List.filter_congr fun k _ => ?_
    rw [Bool.eq_iff_iff, decide_eq_true_eq, iff k]
    simp [and_comm]
  have nd : (nones row es.length).Nodup := by rw [nones_eq]; exact List.nodup_range.filter _
  have tm : t ∈ nones row es.length := by
    rw [nones_eq, List.mem_filter]
    exact ⟨List.mem_range.mpr tl, by simp [t2]⟩
  refine ⟨?_, fun k hk => ?_⟩
  · rw [e1, ← nd.erase_eq_filter, List.length_erase_of_mem tm]
    have := List.length_pos_of_mem tm
    omega
  · rw [e1] at hk
    exact (List.mem_filter.mp hk).1
end Hue
set_option Elab.async false
set_option linter.all false
set_option maxRecDepth 100000
set_option maxHeartbeats 1500000
namespace Hue
open PySem L2
abbrev sTurning : Stmt := top 1
abbrev sDue : Stmt := top 17
def PrF (H : Hp) (vs : List V) (F : Fan) : Prop := vs.length = F.length ∧ ∀ (i : Nat) v, vs[i]? = some v → ∃ q f, v = .ref q ∧ F[i]? = some f ∧ H q = some (.tup [natV f.1, optV f.2])
def FanAt (H : Hp) (L : Addr) (F : Fan) : Prop := ∃ vs, H L = some (.lst vs) ∧ PrF H vs F
theorem PrF.mono {H H' : Hp} {vs : List V} {F : Fan} (h : PrF H vs F) (k : KeepT H H') : PrF H' vs F := ⟨h.1, fun i v hv => let ⟨q, f, a, b, c⟩ := h.2 i v hv; ⟨q, f, a, b, k _ _ c⟩⟩
theorem FanAt.same {H H' : Hp} {L : Addr} {F : Fan} (h : FanAt H L F) (s : Same H H') : FanAt H' L F := let ⟨vs, a, b⟩ := h; ⟨vs, s _ _ a, b.mono (sameKT s)⟩
def stepV (way : List Nat) (hue : Int) (i : Nat) : List V := match way[i + 1]? with
  | some y => [.str "move", natV y, natV (way.getD i 0)]
  | none => [.str "hue", natV (way.getD i 0), .int hue]
def StepsV (H : Hp) (vs : List V) (way : List Nat) (hue : Int) (n : Nat) : Prop := vs.length = n ∧ ∀ (i : Nat) v, vs[i]? = some v → ∃ q, v = .ref q ∧ H q = some (.tup (stepV way hue i))
def StepsAt (H : Hp) (S : Addr) (way : List Nat) (hue : Int) : Prop := ∃ vs, H S = some (.lst vs) ∧ StepsV H vs way hue way.length
theorem StepsV.mono {H H' : Hp} {vs : List V} {way : List Nat} {hue : Int} {n : Nat} (h : StepsV H vs way hue n) (k : KeepT H H') : StepsV H' vs way hue n := ⟨h.1, fun i v hv => let ⟨q, a, c⟩ := h.2 i v hv; ⟨q, a, k _ _ c⟩⟩
theorem StepsAt.same {H H' : Hp} {L : Addr} {way : List Nat} {hue : Int} (h : StepsAt H L way hue) (s : Same H H') : StepsAt H' L way hue := let ⟨vs, a, b⟩ := h; ⟨vs, s _ _ a, b.mono (sameKT s)⟩
theorem StepsV.add {H : Hp} {vs : List V} {way : List Nat} {hue : Int} {n : Nat} {q : Addr} (h : StepsV H vs way hue n) (hq : H q = some (.tup (stepV way hue n))) : StepsV H (vs ++ [.ref q]) way hue (n + 1) := by
  refine ⟨by simp [h.1], fun i v hv => ?_⟩
  by_cases z : i < vs.length
  · rw [List.getElem?_append_left z] at hv
    exact h.2 i v hv
  · have hl := (List.getElem?_eq_some_iff.mp hv).1
    rw [List.length_append] at hl
    have : i = n := by have := h.1; simp at hl; omega
    subst this
    rw [← h.1, List.getElem?_append_right (Nat.le_refl _)] at hv
    have : v = .ref q := by simpa using hv.symm
    subst this
    exact ⟨q, rfl, hq⟩
def spTurning : Sp := fun vs H Q _ => ∃ (es : List (Int × Int)) (row : List V) (p : Int) (L : Addr) (F : Fan) (i : Nat) (hue : Int), vs = [.ref L, .int i, .int hue] ∧ FanAt H L F ∧ FanOk es row p F ∧ i < F.length ∧ F.length ≤ 200 ∧ ∀ S H', H S = none → Same H H' → StepsAt H' S (wayF F i) hue → Q (.ref S) H'
def lenAt (L : Addr) (H : Hp) : Nat := match H L with
  | some (.lst xs) => xs.length
  | _ => 0
def rest (F : Fan) : Option Nat → List Nat
  | none => []
  | some b => chn F (b + 1) b
theorem rest_some {es : List (Int × Int)} {row : List V} {p : Int} {F : Fan} (O : FanOk es row p F) {b : Nat} {f : Nat × Option Nat} (e : F[b]? = some f) : rest F (some b) = b :: rest F f.2 := by
  obtain ⟨t, ob⟩ := f
  show chn F (b + 1) b = b :: rest F ob
  rw [chn, e]
  cases ob with
  | none => rfl
  | some c =>
    have : c < b := by
      cases b with
      | zero => obtain ⟨t', e', _⟩ := O.z; rw [e'] at e; cases e
      | succ b => obtain ⟨b', _, _, x1, x2, _⟩ := O.s b _ e; cases x1; exact x2
    show b :: chn F b c = _
    rw [chn_fuel O this (Nat.lt_succ_self c)]
    rfl
theorem back_in {es : List (Int × Int)} {row : List V} {p : Int} {F : Fan} (O : FanOk es row p F) {b c : Nat} {f : Nat × Option Nat} (e : F[b]? = some f) (h : f.2 = some c) : c < b ∧ ∃ g, F[c]? = some g := by
  cases b with
  | zero => obtain ⟨t', e', _⟩ := O.z; rw [e'] at e; cases e; cases h
  | succ b => obtain ⟨b', _, g, x1, x2, _, x4, _⟩ := O.s b _ e; rw [x1] at h; cases h; exact ⟨x2, g, x4⟩
theorem fan_ix {K : PySem.W.Frag} {H : Hp} {L : Addr} {F : Fan} {vs : List V} {i : Nat} {f : Nat × Option Nat} {Q : VK} (hL : H L = some (.lst vs)) (h : PrF H vs F) (e : F[i]? = some f) (q : ∀ a, H a = some (.tup [natV f.1, optV f.2]) → Q (.ref a) H) : rIxL K (.ref L) (.int (i : Int)) H Q := by
  have hi : i < vs.length := by rw [h.1]; exact (List.getElem?_eq_some_iff.mp e).1
  obtain ⟨a, f', e1, e2, e3⟩ := h.2 i _ (List.getElem?_eq_getElem hi)
  rw [e] at e2; cases e2
  exact ⟨L, vs, _, _, rfl, rfl, SqL.of hL, atI_nat (by rw [List.getElem?_eq_getElem hi, e1]), q a e3⟩
theorem nd_of : ((["_law_one"] : List Str) ++ (["_law_fan_here"] : List Str)).Nodup := by decide +kernel
theorem nd_tf : ((["_law_tie", "_law_further"] : List Str) ++ ([] : List Str)).Nodup := by decide +kernel
def lenSt (σ : St) (H : Hp) : Nat := match (σ[3]? : Option (Option V)) with
  | some (some (V.ref C)) => lenAt C H
  | _ => 0
theorem cut_one (xs : List V) : cutV xs (some 1) none = xs.drop 1 := by
  unfold cutV
  cases xs with
  | nil => simp
  | cons x xs =>
    simp [HT.sIx]
theorem chn_in {es : List (Int × Int)} {row : List V} {p : Int} {F : Fan} (O : FanOk es row p F) : ∀ {n i : Nat} {f : Nat × Option Nat}, F[i]? = some f → ∀ {j : Nat}, j ∈ chn F n i → ∃ g, F[j]? = some g
  | 0, i, f, e, j, h => by cases h
  | n + 1, i, f, e, j, h => by
    unfold chn at h
    rcases List.mem_cons.mp h with rfl | h
    · exact ⟨f, e⟩
    · split at h
      · rename_i t b e'
        obtain ⟨_, g, eg⟩ := back_in O e' rfl
        exact chn_in O eg h
      · cases h
theorem at0 (b : Nat) (ac : List Nat) : atI ((b :: ac).map natV) 0 = some (natV b) := atI_nat (j := 0) rfl
theorem nd_kw : ((["k"] : List Str) ++ (["way"] : List Str)).Nodup := by decide +kernel
section
variable {P : Program} {w : World} {K : PySem.W.Frag} {mg : Str → Option Value} {base : Heap}
theorem scTurning : FnScope ["fan", "at", "hue", "way", "back", "steps"] ["fan", "at", "hue"] (defScope sTurning) := ⟨rfl, rfl, rfl, by decide +kernel, rfl, by decide +kernel, by decide +kernel⟩
theorem ok_turning {f : Addr} {fd : FuncData} (F0 : Fun K "turning" "turning" sTurning f fd) (T : Txt K mg) : FnOk P w K mg base CX0 1 f fd ["fan", "at", "hue"] spTurning := by
  refine F0.ok scTurning (fun vs H Q E h => ?_) (fun cdv A outer s H vs Q E hr h => ?_)
  · obtain ⟨_, _, _, _, _, _, _, rfl, _⟩ := h; rfl
  · obtain ⟨es, row, p, L, F, i, hue, rfl, ⟨vs, hL, hF⟩, O, hi, h200, q⟩ := h
    refine ⟨_, pss_cons (ps_set (i := 3) scTurning.nd rfl (Or.inr rfl) (pe_lst (pa_cons (pe_ix ix_tup (pe_ix ix_list (pv 0) (pv 1) (fun _ _ => rfl)) pe_int (fun _ _ => rfl)) pa_nil)))
      (pss_cons (ps_set (i := 4) scTurning.nd rfl (Or.inl rfl) (pe_ix ix_tup (pe_ix ix_list (pv 0) (pv 1) (fun _ _ => rfl)) pe_int (fun _ _ => rfl)))
      (pss_cons (ps_while PassesOwn.never (pt_cmp (pc_notN (pv 4))) (pss_cons (ps_expr (pe_bm PySem.F.plainAttrs_list PySem.F.slot_list_append PySem.F.type_list_append mt_append (pv 3) (pa_cons (pe_ix ix_tup (pe_ix ix_list (pv 0) (pv 4) (fun _ _ => rfl)) pe_int (fun _ _ => rfl)) pa_nil)))
        (pss_one (ps_set (i := 4) scTurning.nd rfl (Or.inl rfl) (pe_ix ix_tup (pe_ix ix_list (pv 0) (pv 4) (fun _ _ => rfl)) pe_int (fun _ _ => rfl))))))
      (pss_cons (ps_expr (pe_bm0 PySem.F.plainAttrs_list PySem.F.slot_list_reverse PySem.F.type_list_reverse mt_reverse (pv 3)))
      (pss_cons (ps_setComp (i := 5) ["k"] ["way"] [3] scTurning.nd rfl rfl (pi_range1 (by rfl) T.range (pa_cons (pe_op op_sub (pe_callB call_len_seq (by rfl) T.len b_len (pa_cons (pv 3) pa_nil)) pe_int) pa_nil)) (fun _ _ _ _ _ => pg_name (i := 0) nd_kw rfl (Or.inl rfl)) (fun _ _ _ _ _ => pifs_nil)
        (fun _ _ _ _ _ => pe_tup (pa_cons pe_str (pa_cons (pe_ix (ix_listK (K := K) rfl) (pv 1) (pe_op op_add (pv 0) pe_int) (fun _ _ => rfl)) (pa_cons (pe_ix (ix_listK (K := K) rfl) (pv 1) (pv 0) (fun _ _ => rfl)) pa_nil)))))
      (pss_cons (ps_expr (pe_bm PySem.F.plainAttrs_list PySem.F.slot_list_append PySem.F.type_list_append mt_append (pv 5) (pa_cons (pe_tup (pa_cons pe_str (pa_cons (pe_ix ix_list (pv 3) (pe_un un_neg pe_int) (fun _ _ => rfl)) (pa_cons (pv 2) pa_nil)))) pa_nil)))
      (pss_one (ps_ret (pv 5)))))))), ?_⟩
    obtain ⟨f0, e0⟩ : ∃ f0, F[i]? = some f0 := ⟨_, List.getElem?_eq_getElem hi⟩
    refine ⟨_, rfl, _, rfl, fan_ix hL hF e0 fun a0 ha0 => ?_⟩
    refine ⟨a0, _, _, _, rfl, rfl, SqT.of ha0, (rfl : atI [natV f0.1, optV f0.2] 0 = some (natV f0.1)), by show 1 ≤ sizeLine; decide, fun D hD => ?_⟩
    have s1 : Same H (upd H D (.lst [natV f0.1])) := same_new (Same.refl _) hD
    have d1 : (upd H D (.lst [natV f0.1])) D = some (.lst (([i].map (tieF F)).map natV)) := by
      rw [upd_same]; simp [tieF, List.getD_eq_getElem?_getD, e0]
    generalize (upd H D (.lst [natV f0.1])) = H1 at s1 d1
    refine ⟨_, rfl, _, rfl, fan_ix (s1 _ _ hL) (hF.mono (sameKT s1)) e0 fun a1 ha1 => ?_⟩
    refine ⟨a1, _, _, _, rfl, rfl, SqT.of ha1, (rfl : atI [natV f0.1, optV f0.2] 1 = some (optV f0.2)), ?_⟩
    refine while_by (fun σ H2 => ∃ (ac : List Nat) (bk : Option Nat), σ = [some (.ref L), some (.int i), some (.int hue), some (.ref D), some (optV bk), none] ∧ Same H H2 ∧ H2 D = some (.lst ((ac.map (tieF F)).map natV)) ∧ ac ++ rest F bk = chn F (i + 1) i ∧ (∀ b, bk = some b → ∃ g, F[b]? = some g))
      (fun _ H2 => (chn F (i + 1) i).length - lenAt D H2) ⟨[i], f0.2, rfl, s1, d1, ?_, fun b hb => (back_in O e0 hb).2⟩ ?_ ?_
    · have := rest_some O e0
      show i :: rest F f0.2 = _
      rw [← this]; rfl
    · rintro σ H2 ⟨ac, bk, rfl, s2, d2, ec, hb⟩
      refine ⟨_, rfl, _, rfl, ?_⟩
      cases bk with
      | none =>
        refine iteNS rfl ?_
        have ec' : ac = chn F (i + 1) i := by rw [← ec]; simp [rest]
        obtain ⟨C, l1, l2, l3, _⟩ := way_ok O (i + 1) i (Nat.lt_succ_self i) _ e0
        have hrev : ((ac.map (tieF F)).map natV).reverse = (wayF F i).map natV := by
          rw [ec', ← List.map_reverse, ← List.map_reverse]; rfl
        refine ⟨_, rfl, .inl ⟨rfl, _, SqL.of d2⟩, D, _, rfl, rfl, d2, ?_⟩
        rw [hrev]
        have s3 : Same H (upd H2 D (.lst ((wayF F i).map natV))) := same_own s2 hD
        have d3 : (upd H2 D (.lst ((wayF F i).map natV))) D = some (.lst ((wayF F i).map natV)) := upd_same
        generalize (upd H2 D (.lst ((wayF F i).map natV))) = H3 at s3 d3
        generalize wayF F i = way at *
        have hlen : ((way.map natV).length : Int) - 1 = ((way.length - 1 : Nat) : Int) := by rw [List.length_map]; omega
        refine ⟨_, rfl, D, _, rfl, .inl (SqL.of d3), _, _, rfl, rfl, _, rfl, by rw [hlen]; omega, by rw [hlen]; omega, fun S hS => ?_⟩
        rw [hlen]
        refine comp_range (lo := 0) (n := ((way.length - 1 : Nat) : Int).toNat) (fun k ys H4 => Same H3 H4 ∧ H4 S = some (.lst ys) ∧ StepsV H4 ys way hue k) ⟨same_new (Same.refl _) hS, upd_same, rfl, fun i v hv => by simp at hv⟩ ?_ ?_
        · rintro k ys H4 hk ⟨s4, d4, st⟩
          have hk' : k + 1 < way.length := by have : k < way.length - 1 := by simpa using hk
                                              omega
          have ey : way[k + 1]? = some (way[k + 1]'hk') := by simp
          have ex : way[k]? = some (way.getD k 0) := by rw [List.getD_eq_getElem?_getD, List.getElem?_eq_getElem (by omega)]; rfl
          have a1 : atI (way.map natV) (0 + (k : Int) + 1) = some (natV (way[k + 1]'hk')) := by
            rw [show (0 : Int) + (k : Int) + 1 = ((k + 1 : Nat) : Int) by omega]
            exact atI_nat (by rw [List.getElem?_map, ey]; rfl)
          have a2 : atI (way.map natV) (0 + (k : Int)) = some (natV (way.getD k 0)) := by
            rw [Int.zero_add]
            exact atI_nat (by rw [List.getElem?_map, ex]; rfl)
          refine compT (i := 0) ⟨_, rfl, _, rfl, _, _, rfl, rfl, D, _, _, _, rfl, rfl, SqL.of (s4 _ _ d3), a1, ?_⟩
          refine ⟨_, rfl, _, rfl, D, _, _, _, rfl, rfl, SqL.of (s4 _ _ d3), a2, by show 3 ≤ sizeLine; decide, fun g hg => ?_⟩
          have e3 : stepV way hue k = [.str "move", natV (way[k + 1]'hk'), natV (way.getD k 0)] := by unfold stepV; rw [ey]
          refine ⟨keepN d4 hg, small1000 (by rw [st.1]; omega), same_own (same_new s4 hg) hS, upd_same, ?_⟩
          have st2 : StepsV (upd H4 g (.tup [.str "move", natV (way[k + 1]'hk'), natV (way.getD k 0)])) (ys ++ [.ref g]) way hue (k + 1) := (st.mono (KeepT.new hg)).add (by rw [upd_same, e3])
          exact st2.mono (KeepT.lst (keepN d4 hg))
        · rintro ys H4 ⟨s4, d4, st⟩
          rw [Int.toNat_natCast] at st
          have el : way = way.take (way.length - 1) ++ [f0.1] := by
            have := List.take_append_getElem (l := way) (i := way.length - 1) (by omega)
            rw [show way[way.length - 1]'(by omega) = f0.1 from by
              have h2 := l1
              rw [List.getElem?_eq_getElem (by omega)] at h2
              exact Option.some.inj h2, show way.length - 1 + 1 = way.length by omega, List.take_length] at this
            exact this.symm
          have al : atI (way.map natV) (-1) = some (natV f0.1) := by
            rw [el, List.map_append]; exact atI_last _ _
          have e3 : stepV way hue (way.length - 1) = [.str "hue", natV f0.1, .int hue] := by
            unfold stepV
            rw [List.getElem?_eq_none (by omega), List.getD_eq_getElem?_getD, l1]; rfl
          refine ⟨_, rfl, .inl ⟨rfl, _, SqL.of d4⟩, _, rfl, 1, rfl, D, _, _, _, rfl, rfl, SqL.of (s4 _ _ d3), al, ?_⟩
          refine ⟨_, rfl, by show 3 ≤ sizeLine; decide, fun g hg => ?_⟩
          refine ⟨S, _, _, rfl, rfl, keepN d4 hg, small1000 (by rw [st.1]; omega), ?_⟩
          have st2 : StepsV (upd H4 g (.tup [.str "hue", natV f0.1, .int hue])) (ys ++ [.ref g]) way hue (way.length - 1 + 1) := (st.mono (KeepT.new hg)).add (by rw [upd_same, e3])
          rw [show way.length - 1 + 1 = way.length by omega] at st2
          exact ⟨_, rfl, q S _ (s3.free hS) (same_own (same_new (s3.trans s4) hg) (s3.free hS)) ⟨_, upd_same, st2.mono (KeepT.lst (keepN d4 hg))⟩⟩
      | some b =>
        refine iteNT (fun z => nomatch z) ?_
        obtain ⟨g, eg⟩ := hb b rfl
        have erest := rest_some O eg
        have hac : ac.length < (chn F (i + 1) i).length := by rw [← ec, erest]; simp
        have hcl : (chn F (i + 1) i).length ≤ i + 1 := by
          have := (way_ok O (i + 1) i (Nat.lt_succ_self i) _ e0).2.2.2.1
          unfold wayF at this
          simpa using this
        refine ⟨_, rfl, .inl ⟨rfl, _, SqL.of d2⟩, _, rfl, _, rfl, fan_ix (s2 _ _ hL) (hF.mono (sameKT s2)) eg fun a2 ha2 => ?_⟩
        refine ⟨a2, _, _, _, rfl, rfl, SqT.of ha2, (rfl : atI [natV g.1, optV g.2] 0 = some (natV g.1)), ?_⟩
        refine ⟨D, _, _, rfl, rfl, d2, small1000 (by simp only [List.length_map]; omega), ?_⟩
        have s3 : Same H (upd H2 D (.lst ((ac.map (tieF F)).map natV ++ [natV g.1]))) := same_own s2 hD
        refine ⟨_, rfl, _, rfl, fan_ix (s3 _ _ hL) (hF.mono (sameKT s3)) eg fun a3 ha3 => ?_⟩
        refine ⟨a3, _, _, _, rfl, rfl, SqT.of ha3, (rfl : atI [natV g.1, optV g.2] 1 = some (optV g.2)), ?_⟩
        have e5 : (ac.map (tieF F)).map natV ++ [natV g.1] = ((ac ++ [b]).map (tieF F)).map natV := by
          rw [List.map_append, List.map_append]; simp [tieF, List.getD_eq_getElem?_getD, eg]
        refine ⟨⟨ac ++ [b], g.2, rfl, s3, by rw [upd_same, e5], ?_, fun c hc => (back_in O eg hc).2⟩, ?_⟩
        · rw [← ec, erest, List.append_assoc]; rfl
        · unfold lenAt
          rw [upd_same, d2]
          simp only [List.length_append, List.length_map, List.length_singleton]
          omega
    · rintro σ H2 Q1 Q2 hQ ⟨x, hx, b, hb, q2⟩
      exact ⟨x, hx, b, hb, hQ _ _ q2⟩
theorem scDue : FnScope ["_law_fan_here", "_law_at", "_law_hue", "_law_chain", "_law_ties"] ["_law_fan_here", "_law_at", "_law_hue"] (defScope sDue) := ⟨rfl, rfl, rfl, by decide +kernel, rfl, by decide +kernel, by decide +kernel⟩
theorem ok_due {f : Addr} {fd : FuncData} (F0 : Fun K "_law_due" "_law_due" sDue f fd) (T : Txt K mg) : FnOk P w K mg base CX0 1 f fd ["_law_fan_here", "_law_at", "_law_hue"] spTurning := by
  refine F0.ok scDue (fun vs H Q E h => ?_) (fun cdv A outer s H vs Q E hr h => ?_)
  · obtain ⟨_, _, _, _, _, _, _, rfl, _⟩ := h; rfl
  · obtain ⟨es, row, p, L, F, i, hue, rfl, ⟨vs, hL, hF⟩, O, hi, h200, q⟩ := h
    refine ⟨_, pss_cons (ps_set (i := 3) scDue.nd rfl (Or.inl rfl) (pe_lst (pa_cons (pv 1) pa_nil)))
      (pss_cons (ps_while PassesOwn.never (pt_cmp (pc_notN (pe_ix ix_tup (pe_ix ix_list (pv 0) (pe_ix ix_list (pv 3) pe_int (fun _ _ => rfl)) (fun _ _ => rfl)) pe_int (fun _ _ => rfl))))
        (pss_one (ps_set (i := 3) scDue.nd rfl (Or.inl rfl) (pe_op op_cat (pe_lst (pa_cons (pe_ix ix_tup (pe_ix ix_list (pv 0) (pe_ix ix_list (pv 3) pe_int (fun _ _ => rfl)) (fun _ _ => rfl)) pe_int (fun _ _ => rfl)) pa_nil)) (pv 3)))))
      (pss_cons (ps_setComp (i := 4) ["_law_one"] ["_law_fan_here"] [0] scDue.nd rfl rfl (pi_list (pv 3)) (fun _ _ _ _ _ => pg_name (i := 0) nd_of rfl (Or.inl rfl)) (fun _ _ _ _ _ => pifs_nil) (fun _ _ _ _ _ => pe_ix (ix_tupK (K := K) rfl) (pe_ix (ix_listK (K := K) rfl) (pv 1) (pv 0) (fun _ _ => rfl)) pe_int (fun _ _ => rfl)))
      (pss_one (ps_ret (pe_op op_cat (pe_comp ["_law_tie", "_law_further"] [] [] (pi_zip (by rfl) T.zip (pa_cons (pv 4) (pa_cons (pe_slice sl_list (pv 4) (po_some pe_int) po_none) pa_nil)))
          (fun _ _ _ _ _ => pg_tupK (K := K) (n := 2) rfl rfl (pgs_cons (pg_name (i := 0) nd_tf rfl (Or.inl rfl)) (pgs_cons (pg_name (i := 1) nd_tf rfl (Or.inl rfl)) pgs_nil))) (fun _ _ _ _ _ => pifs_nil) (fun _ _ _ _ _ => pe_tup (pa_cons pe_str (pa_cons (pv 1) (pa_cons (pv 0) pa_nil)))))
        (pe_lst (pa_cons (pe_tup (pa_cons pe_str (pa_cons (pe_ix ix_list (pv 4) (pe_un un_neg pe_int) (fun _ _ => rfl)) (pa_cons (pv 2) pa_nil)))) pa_nil))))))), ?_⟩
    obtain ⟨f0, e0⟩ : ∃ f0, F[i]? = some f0 := ⟨_, List.getElem?_eq_getElem hi⟩
    have hcl : (chn F (i + 1) i).length ≤ i + 1 := by
      have := (way_ok O (i + 1) i (Nat.lt_succ_self i) _ e0).2.2.2.1
      unfold wayF at this
      simpa using this
    refine ⟨_, rfl, by show 1 ≤ sizeLine; decide, fun D hD => ?_⟩
    refine while_by (fun σ H2 => ∃ (C : Addr) (ac : List Nat) (b : Nat) (g : Nat × Option Nat), σ = [some (.ref L), some (.int i), some (.int hue), some (.ref C), none] ∧ Same H H2 ∧ H2 C = some (.lst ((b :: ac).map natV)) ∧ H C = none ∧ F[b]? = some g ∧ ac.reverse ++ rest F (some b) = chn F (i + 1) i)
      (fun σ H2 => (chn F (i + 1) i).length - lenSt σ H2) ⟨D, [], i, f0, rfl, same_new (Same.refl _) hD, upd_same, hD, e0, rfl⟩ ?_ ?_
    · rintro σ H2 ⟨C, ac, b, g, rfl, s2, d2, nC, eg, ec⟩
      refine ⟨_, rfl, _, rfl, C, _, _, _, rfl, rfl, SqL.of d2, at0 b ac, ?_⟩
      refine fan_ix (s2 _ _ hL) (hF.mono (sameKT s2)) eg fun a2 ha2 => ?_
      refine ⟨a2, _, _, _, rfl, rfl, SqT.of ha2, (rfl : atI [natV g.1, optV g.2] 1 = some (optV g.2)), _, rfl, ?_⟩
      have erest := rest_some O eg
      cases eb : g.2 with
      | none =>
        rw [eb] at erest
        refine iteNS rfl ?_
        have ec' : chn F (i + 1) i = (b :: ac).reverse := by rw [← ec, erest]; simp [rest]
        obtain ⟨Cw, l1, l2, l3, _⟩ := way_ok O (i + 1) i (Nat.lt_succ_self i) _ e0
        have hway : (b :: ac).map (tieF F) = wayF F i := by unfold wayF; rw [ec', List.reverse_reverse]
        have hin : ∀ j ∈ b :: ac, ∃ g', F[j]? = some g' := fun j hj => chn_in O e0 (by rw [ec']; exact List.mem_reverse.mpr hj)
        have hll : (b :: ac).length ≤ i + 1 := by rw [← hway] at l3; simpa using l3
        generalize (b :: ac) = cs at *
        refine ⟨_, rfl, C, rfl, ⟨_, SqL.of d2⟩, fun W hW => comp_list (K := K) (a := C) (xs := cs.map natV) (fun k ys H3 => Same H2 H3 ∧ H3 W = some (.lst ys) ∧ ys = ((cs.take k).map (tieF F)).map natV) ⟨same_new (Same.refl _) hW, upd_same, rfl⟩ (fun k ys H3 _ h => SqL.of (h.1 _ _ d2)) ?_ ?_⟩
        · rintro k x ys H3 hx ⟨s3, d3, rfl⟩
          obtain ⟨c, hc, rfl⟩ : ∃ c, cs[k]? = some c ∧ natV c = x := by
            rw [List.getElem?_map] at hx
            cases e : cs[k]? with
            | none => rw [e] at hx; cases hx
            | some c => rw [e] at hx; exact ⟨c, rfl, by simpa using hx⟩
          have hk : k < cs.length := (List.getElem?_eq_some_iff.mp hc).1
          obtain ⟨g', eg'⟩ := hin c (List.mem_of_getElem? hc)
          have s23 := s2.trans s3
          refine compT (i := 0) ⟨_, rfl, _, rfl, fan_ix (s23 _ _ hL) (hF.mono (sameKT s23)) eg' fun a3 ha3 => ?_⟩
          refine ⟨a3, _, _, _, rfl, rfl, SqT.of ha3, (rfl : atI [natV g'.1, optV g'.2] 0 = some (natV g'.1)), d3, small1000 (by simp only [List.length_map, List.length_take]; omega), same_own s3 hW, upd_same, ?_⟩
          rw [List.take_add_one, hc, Option.toList_some, List.map_append, List.map_append]
          simp [tieF, List.getD_eq_getElem?_getD, eg']
        · rintro ys H3 ⟨s3, d3, rfl⟩
          rw [List.length_map, List.take_length, hway] at d3
          have s03 := s2.trans s3
          generalize wayF F i = way at *
          refine ⟨_, rfl, _, rfl, 1, rfl, W, _, rfl, SqL.of d3, fun Z hZ => ?_⟩
          rw [cut_one]
          have s4 := same_new (o := .lst ((way.map natV).drop 1)) s03 hZ
          have d4 := keepN (u := .lst ((way.map natV).drop 1)) d3 hZ
          have z4 : (upd H3 Z (.lst ((way.map natV).drop 1))) Z = some (.lst ((way.map natV).drop 1)) := upd_same
          generalize (upd H3 Z (.lst ((way.map natV).drop 1))) = H4 at s4 d4 z4
          refine ⟨W, Z, rfl, ⟨_, SqL.of d4⟩, ⟨_, SqL.of z4⟩, fun S hS => comp_zip2 (K := K) (a := W) (b := Z) (xs := way.map natV) (zs := (way.map natV).drop 1) (by simp) (fun k ys H5 => Same H4 H5 ∧ H5 S = some (.lst ys) ∧ StepsV H5 ys way hue k) ⟨same_new (Same.refl _) hS, upd_same, rfl, fun i v hv => by simp at hv⟩ (fun k ys H5 _ h => ⟨SqL.of (h.1 _ _ d4), SqL.of (h.1 _ _ z4)⟩) ?_ ?_⟩
          · rintro k x z ys H5 pp hx hz ⟨s5, d5, st⟩ hpp
            rw [List.getElem?_drop, List.getElem?_map] at hz
            rw [List.getElem?_map] at hx
            obtain ⟨cx, ex, rfl⟩ : ∃ c, way[k]? = some c ∧ natV c = x := by
              cases e : way[k]? with
              | none => rw [e] at hx; cases hx
              | some c => rw [e] at hx; exact ⟨c, rfl, by simpa using hx⟩
            obtain ⟨cz, ez, rfl⟩ : ∃ c, way[k + 1]? = some c ∧ natV c = z := by
              rw [Nat.add_comm] at hz
              cases e : way[k + 1]? with
              | none => rw [e] at hz; cases hz
              | some c => rw [e] at hz; exact ⟨c, rfl, by simpa using hz⟩
            have hk : k + 1 < way.length := (List.getElem?_eq_some_iff.mp ez).1
            refine ⟨pp, _, rfl, SqT.of upd_same, rfl, _, _, rfl, _, _, rfl, rfl, ?_⟩
            refine iteT ⟨_, rfl, _, rfl, by show 3 ≤ sizeLine; decide, fun g hg => ?_⟩
            have e3 : stepV way hue k = [.str "move", natV cz, natV cx] := by unfold stepV; rw [ez, List.getD_eq_getElem?_getD, ex]; rfl
            have d6 := keepN (u := .tup [natV cx, natV cz]) d5 hpp
            refine ⟨keepN d6 hg, small1000 (by rw [st.1]; omega), same_own (same_new (same_new s5 hpp) hg) hS, upd_same, ?_⟩
            have st2 : StepsV (upd (upd H5 pp (.tup [natV cx, natV cz])) g (.tup [.str "move", natV cz, natV cx])) (ys ++ [.ref g]) way hue (k + 1) := ((st.mono (KeepT.new hpp)).mono (KeepT.new hg)).add (by rw [upd_same, e3])
            exact st2.mono (KeepT.lst (keepN d6 hg))
          · rintro ys H5 ⟨s5, d5, st⟩
            rw [List.length_drop, List.length_map] at st
            have el : way = way.take (way.length - 1) ++ [f0.1] := by
              have := List.take_append_getElem (l := way) (i := way.length - 1) (by omega)
              rw [show way[way.length - 1]'(by omega) = f0.1 from by
                have h2 := l1
                rw [List.getElem?_eq_getElem (by omega)] at h2
                exact Option.some.inj h2, show way.length - 1 + 1 = way.length by omega, List.take_length] at this
              exact this.symm
            have al : atI (way.map natV) (-1) = some (natV f0.1) := by
              rw [el, List.map_append]; exact atI_last _ _
            have e3 : stepV way hue (way.length - 1) = [.str "hue", natV f0.1, .int hue] := by
              unfold stepV
              rw [List.getElem?_eq_none (by omega), List.getD_eq_getElem?_getD, l1]; rfl
            refine ⟨_, rfl, 1, rfl, W, _, _, _, rfl, rfl, SqL.of (s5 _ _ d4), al, _, rfl, by show 3 ≤ sizeLine; decide, fun g hg => ⟨by show 1 ≤ sizeLine; decide, fun u hu => ?_⟩⟩
            have d6 := keepN (u := .tup [.str "hue", natV f0.1, .int hue]) d5 hg
            have s6 := same_new (o := .lst [.ref g]) (same_new (o := .tup [.str "hue", natV f0.1, .int hue]) (s4.trans s5) hg) hu
            refine ⟨S, u, _, _, rfl, rfl, keepN d6 hu, upd_same, Nat.le_of_lt (small1000 (by rw [st.1]; show _ + 1 ≤ _; omega)), fun R hR => ?_⟩
            have s7 := same_new (o := .lst (ys ++ [.ref g])) s6 hR
            have st2 : StepsV (upd H5 g (.tup [.str "hue", natV f0.1, .int hue])) (ys ++ [.ref g]) way hue (way.length - 1 + 1) := (st.mono (KeepT.new hg)).add (by rw [upd_same, e3])
            rw [show way.length - 1 + 1 = way.length by omega] at st2
            exact q R _ (s6.free hR) s7 ⟨_, upd_same, (st2.mono (KeepT.new hu)).mono (KeepT.new hR)⟩
      | some c =>
        rw [eb] at erest
        refine iteNT (fun z => nomatch z) ?_
        have hac : (b :: ac).length < (chn F (i + 1) i).length := by
          rw [← ec, erest]
          obtain ⟨_, g', eg'⟩ := back_in O eg eb
          rw [rest_some O eg']
          simp
        refine ⟨_, rfl, _, rfl, C, _, _, _, rfl, rfl, SqL.of d2, at0 b ac, ?_⟩
        refine fan_ix (s2 _ _ hL) (hF.mono (sameKT s2)) eg fun a3 ha3 => ?_
        refine ⟨a3, _, _, _, rfl, rfl, SqT.of ha3, (rfl : atI [natV g.1, optV g.2] 1 = some (optV g.2)), by show 1 ≤ sizeLine; decide, fun u hu => ?_⟩
        rw [eb]
        have s3 := same_new (o := .lst [optV (some c)]) s2 hu
        refine ⟨_, rfl, u, C, _, _, rfl, rfl, upd_same, keepN d2 hu, Nat.le_of_lt (small1000 (by rw [List.length_map]; show 1 + _ ≤ _; omega)), fun R hR => ?_⟩
        obtain ⟨_, g', eg'⟩ := back_in O eg eb
        refine ⟨⟨R, b :: ac, c, g', rfl, same_new s3 hR, upd_same, s3.free hR, eg', ?_⟩, ?_⟩
        · rw [← ec, erest, List.reverse_cons, List.append_assoc]; rfl
        · show (chn F (i + 1) i).length - lenAt R (upd (upd H2 u (.lst [optV (some c)])) R (.lst ([optV (some c)] ++ (b :: ac).map natV))) < (chn F (i + 1) i).length - lenAt C H2
          unfold lenAt
          rw [upd_same, d2]
          simp only [List.length_append, List.length_map, List.length_singleton]
          omega
    · rintro σ H2 Q1 Q2 hQ ⟨x0, h0, x3, h3, p1, xs1, i1, v1, a1, b1, c1, d1, p2, xs2, i2, v2, a2, b2, c2, d2, p3, xs3, i3, v3, a3, b3, c3, d3, r, hr, q2⟩
      exact ⟨x0, h0, x3, h3, p1, xs1, i1, v1, a1, b1, c1, d1, p2, xs2, i2, v2, a2, b2, c2, d2, p3, xs3, i3, v3, a3, b3, c3, d3, r, hr, hQ _ _ q2⟩
end
end Hue
set_option Elab.async false
set_option linter.all false
set_option maxRecDepth 100000
set_option maxHeartbeats 1500000
namespace Hue
open PySem L2
abbrev sIsHu : Stmt := top 9
abbrev sStepped : Stmt := top 12
abbrev sLets : Stmt := top 18
def LRow (H : Hp) (a : Addr) (es : List (Int × Int)) (row : List V) : Prop := H a = some (.lst row) ∧ row.length = es.length ∧ ∀ v ∈ row, HueV v
theorem LRow.same {H H' : Hp} {a : Addr} {es : List (Int × Int)} {row : List V} (h : LRow H a es row) (s : Same H H') : LRow H' a es row := ⟨s _ _ h.1, h.2⟩
def spIsHu : Sp := fun vs H Q _ => ∃ (w a : Addr) (m : Int) (es : List (Int × Int)) (row : List V), vs = [.ref w, .ref a] ∧ WebE H w m es ∧ LRow H a es row ∧ Prop2 es row ∧ ∀ H', Same H H' → Q (.bl true) H'
theorem mt_at {es : List (Int × Int)} {p : Int} {a b : Nat} {x y : Int × Int} (ha : es[a]? = some x) (hb : es[b]? = some y) (hx : p = x.1 ∨ p = x.2) (hy : p = y.1 ∨ p = y.2) : mtI es a b = true := by
  unfold mtI
  rw [ha, hb]
  show mtE x y = true
  unfold mtE
  rw [Bool.or_eq_true]
  rcases hx with hx | hx
  · exact .inl (by rw [← hx]; exact atE_iff.mpr hy)
  · exact .inr (by rw [← hx]; exact atE_iff.mpr hy)
theorem set_hue {row : List V} {k : Nat} {v : V} (h : ∀ u ∈ row, HueV u) (hv : HueV v) : ∀ u ∈ row.set k v, HueV u := fun u hu => by
  rcases List.mem_or_eq_of_mem_set hu with z | z
  · exact h u z
  · rw [z]; exact hv
def spStepped : Sp := fun vs H Q _ => ∃ (w a q : Addr) (m : Int) (es : List (Int × Int)) (row : List V), vs = [.ref w, .ref a, .ref q] ∧ WebE H w m es ∧ LRow H a es row ∧
  ((∃ (x y : Nat) (h : Int), H q = some (.tup [.str "move", natV y, natV x]) ∧ row[y]? = some (.int h) ∧ row[x]? = some .non ∧ mtI es y x = true ∧ Prop2 es ((row.set y .non).set x (.int h)) ∧ ∀ l H', Same H H' → H l = none → LRow H' l es ((row.set y .non).set x (.int h)) → Q (.ref l) H') ∨
   (∃ (x : Nat) (c : Int), H q = some (.tup [.str "hue", natV x, .int c]) ∧ row[x]? = some .non ∧ 0 ≤ c ∧ Prop2 es (row.set x (.int c)) ∧ ∀ l H', Same H H' → H l = none → LRow H' l es (row.set x (.int c)) → Q (.ref l) H'))
theorem s_mr : ¬ (V.str "move" = V.str "row") := by decide +kernel
theorem s_mh : ¬ (V.str "move" = V.str "hue") := by decide +kernel
theorem s_md : ¬ (V.str "move" = V.str "drop") := by decide +kernel
theorem s_hr : ¬ (V.str "hue" = V.str "row") := by decide +kernel
theorem s_hd : ¬ (V.str "hue" = V.str "drop") := by decide +kernel
theorem s_hm : ¬ (V.str "hue" = V.str "move") := by decide +kernel
theorem ix_set {n : Nat} {k : Nat} (h : k < n) : ixN n (k : Int) = some k := by
  unfold ixN
  rw [if_pos (by omega), if_pos (by omega)]
  simp
section
variable {P : Program} {w : World} {K : PySem.W.Frag} {mg : Str → Option Value} {base : Heap}
theorem scIsHu : FnScope ["_law_web_here", "_law_row_here", "_law_tie", "_law_hue", "_law_k"] ["_law_web_here", "_law_row_here"] (defScope sIsHu) := ⟨rfl, rfl, rfl, by decide +kernel, rfl, by decide +kernel, by decide +kernel⟩
theorem ok_isHu {f : Addr} {fd : FuncData} (F : Fun K "_law_is_hueing" "_law_is_hueing" sIsHu f fd) (T : Txt K mg) (CM : CMeetE P w K mg base) : FnOk P w K mg base CX0 2 f fd ["_law_web_here", "_law_row_here"] spIsHu := by
  refine F.ok scIsHu (fun vs H Q E h => ?_) (fun cdv A outer s H vs Q E hr h => ?_)
  · obtain ⟨_, _, _, _, _, rfl, _⟩ := h; rfl
  · obtain ⟨w0, a, m, es, row, rfl, W, R, P2, q⟩ := h
    refine ⟨_, pss_cons (ps_if (pw_or (pt_not (pt_val (pe_callB call_isiT (by rfl) T.isi b_isi (pa_cons (pv 1) (pa_cons (pe_tup (pa_cons (pe_bltn (v := .ty "list") (by rfl) T.list b_list rfl) (pa_cons (pe_bltn (v := .ty "tuple") (by rfl) T.tuple b_tuple rfl) pa_nil))) pa_nil))))) (pw_or1 (pt_cmpR op_ne (pe_callB call_len_seq (by rfl) T.len b_len (pa_cons (pv 1) pa_nil)) (pe_callB call_len_seq (by rfl) T.len b_len (pa_cons (pe_ix ix_tup (pv 0) pe_int (fun _ _ => rfl)) pa_nil)) (nomark _)))).pt pss_no pss_nil)
      (pss_cons (ps_for PassesOwn.never rfl (pi_enum (by rfl) T.enum (pa_cons (pv 1) pa_nil)) (pg_tup rfl (pgs_cons (pg_name (i := 2) scIsHu.nd rfl (Or.inl rfl)) (pgs_cons (pg_name (i := 3) scIsHu.nd rfl (Or.inl rfl)) pgs_nil)))
        (pss_cons (ps_if (pw_and (pt_cmp (pc_notN (pv 3))) (pw_and1 (pw_or (pt_not (pt_val (pe_callB call_isi1 (by rfl) T.isi b_isi (pa_cons (pv 3) (pa_cons (pe_bltn (v := .ty "int") (by rfl) T.int b_int rfl) pa_nil))))) (pw_or (pt_val (pe_callB call_isi1 (by rfl) T.isi b_isi (pa_cons (pv 3) (pa_cons (pe_bltn (v := .ty "bool") (by rfl) T.bool b_bool rfl) pa_nil)))) (pw_or1 (pt_cmpR op_lt (pv 3) pe_int (nomark _))))).pt)).pt pss_no pss_nil)
        (pss_one (ps_for PassesOwn.never rfl (pi_range1 (by rfl) T.range (pa_cons (pv 2) pa_nil)) (pg_name (i := 4) scIsHu.nd rfl (Or.inl rfl))
          (pss_one (ps_if (pw_and (pt_cmp (pc_notN (pv 3))) (pw_and (pt_cmpR op_eq (pe_ix ix_list (pv 1) (pv 4) (fun _ _ => rfl)) (pv 3) (nomark _)) (pw_and1 (pt_val (pe_def CM hr (by rfl) (pa_cons (pv 0) (pa_cons (pv 4) (pa_cons (pv 2) pa_nil)))))))).pt pss_no pss_nil))))))
      (pss_one (ps_ret pe_bl))), ?_⟩
    obtain ⟨ta, us, hw, ht0, htl, he, hbd, h61, hm0, hm12⟩ := id W
    refine ⟨_, rfl, by show 2 ≤ sizeLine; decide, fun p hp => ⟨_, p, ["list", "tuple"], _, true, rfl, upd_same, .lst (keepN R.1 hp), any_lst, _, rfl, iteF ?_⟩⟩
    have s1 : Same H (upd H p (.tup [.ty "list", .ty "tuple"])) := same_new (Same.refl _) hp
    generalize (upd H p (.tup [.ty "list", .ty "tuple"])) = H1 at s1
    refine ⟨_, rfl, a, _, rfl, .inl (SqL.of (s1 _ _ R.1)), _, rfl, w0, _, _, _, rfl, rfl, SqT.of (s1 _ _ hw), (rfl : atI [V.int m, V.ref ta] 1 = some (.ref ta)), ta, us, rfl, .inr (SqT.of (s1 _ _ ht0)), rfl, _, rfl, iteNS (by rw [R.2.1, htl]) ?_⟩
    refine ⟨_, rfl, a, rfl, .inl ⟨⟨_, SqL.of (s1 _ _ R.1)⟩, for_enumL (K := K) (a := a) (xs := row) (fun i σ H2 => ∃ o2 o3 o4 : Option V, σ = [some (.ref w0), some (.ref a), o2, o3, o4] ∧ Same H1 H2) ⟨none, none, none, rfl, Same.refl _⟩ (fun i σ H2 _ h => by obtain ⟨_, _, _, _, h⟩ := h; exact SqL.of (h _ _ (s1 _ _ R.1))) ?_ ?_⟩⟩
    · rintro i v σ H2 pp hv ⟨o2, o3, o4, rfl, s2⟩ hpp
      have hi : i < row.length := (List.getElem?_eq_some_iff.mp hv).1
      have hrl := R.2.1
      have s3 : Same H1 (upd H2 pp (.tup [.int (i : Int), v])) := same_new s2 hpp
      refine ⟨pp, _, rfl, SqT.of upd_same, rfl, _, _, rfl, _, _, rfl, rfl, ?_⟩
      generalize (upd H2 pp (.tup [.int (i : Int), v])) = H3 at s3
      have s13 := s1.trans s3
      have W3 := W.mono (sameKT s13)
      rcases R.2.2 v (List.mem_of_getElem? hv) with rfl | ⟨n, rfl, hn⟩
      · refine ⟨_, rfl, _, rfl, iteNS rfl (iteF ?_)⟩
        refine ⟨_, rfl, _, rfl, by omega, by omega, for_range (lo := 0) (n := ((i : Int)).toNat) (fun k σ H4 => ∃ o4 : Option V, σ = [some (.ref w0), some (.ref a), some (.int (i : Int)), some .non, o4] ∧ Same H3 H4) ⟨o4, rfl, Same.refl _⟩ ?_ ?_⟩
        · rintro k σ H4 hk ⟨o4', rfl, s4⟩
          exact ⟨_, rfl, _, rfl, iteNS rfl (iteF ⟨_, rfl, s4⟩)⟩
        · rintro σ H4 ⟨o4', rfl, s4⟩
          exact ⟨_, _, _, rfl, s3.trans s4⟩
      · refine ⟨_, rfl, _, rfl, iteNT (fun z => nomatch z) ?_⟩
        refine ⟨_, rfl, _, "int", _, _, rfl, .int n, (kit_n _ _).trans kt_ii, _, rfl, iteF ?_⟩
        refine ⟨_, rfl, _, "bool", _, _, rfl, .int n, (kit_n _ _).trans kt_ib, _, rfl, iteF ?_⟩
        refine ⟨_, rfl, _, _, rfl, rfl, _, rfl, iteND (by omega) ?_⟩
        refine ⟨_, rfl, _, rfl, by omega, by omega, for_range (lo := 0) (n := ((i : Int)).toNat) (fun k σ H4 => ∃ o4 : Option V, σ = [some (.ref w0), some (.ref a), some (.int (i : Int)), some (.int n), o4] ∧ Same H3 H4) ⟨o4, rfl, Same.refl _⟩ ?_ ?_⟩
        · rintro k σ H4 hk ⟨o4', rfl, s4⟩
          have hki : k < i := by simpa using hk
          have hkr : row[k]? = some (row[k]'(by omega)) := by simp
          have ak : atI row (0 + (k : Int)) = some (row[k]'(by omega)) := by rw [Int.zero_add]; exact atI_nat hkr
          refine ⟨_, rfl, _, rfl, iteNT (fun z => nomatch z) ?_⟩
          refine ⟨_, rfl, _, rfl, a, _, _, _, rfl, rfl, SqL.of (s4 _ _ (s13 _ _ R.1)), ak, _, rfl, ?_⟩
          rcases R.2.2 _ (List.getElem_mem (show k < row.length by omega)) with e | ⟨c, e, _⟩
          · rw [e] at hkr ⊢
            exact ⟨rfl, _, rfl, iteND (fun z => nomatch z) (iteF ⟨_, rfl, s4⟩)⟩
          · rw [e] at hkr ⊢
            refine ⟨rfl, _, rfl, ite2 (fun z => ?_) (fun z => iteF ⟨_, rfl, s4⟩)⟩
            have z' : c = n := by have := of_decide_eq_true z; injection this
            subst z'
            have nomeet : mtI es k i = false := by
              cases e2 : mtI es k i with
              | false => rfl
              | true => exact absurd hv (P2 k i hki (by omega) e2 c hkr)
            refine ⟨_, rfl, _, rfl, _, rfl, w0, m, es, k, i, ?_, W3.mono (sameKT s4), by rw [← R.2.1]; omega, by rw [← R.2.1]; omega, ?_⟩
            · rw [Int.zero_add]; rfl
            · rw [nomeet]
              exact ⟨_, rfl, iteF ⟨_, rfl, s4⟩⟩
        · rintro σ H4 ⟨o4', rfl, s4⟩
          exact ⟨_, _, _, rfl, s3.trans s4⟩
    · rintro σ H2 ⟨o2, o3, o4, rfl, s2⟩
      exact q H2 (s1.trans s2)
theorem scStepped : FnScope ["_law_web_here", "_law_hueing_here", "_law_step", "_law_made", "_law_many", "_law_place", "_law_one", "_law_other", "_law_tie"] ["_law_web_here", "_law_hueing_here", "_law_step"] (defScope sStepped) := ⟨rfl, rfl, rfl, by decide +kernel, rfl, by decide +kernel, by decide +kernel⟩
theorem ok_stepped {f : Addr} {fd : FuncData} (F : Fun K "_law_stepped" "_law_stepped" sStepped f fd) (T : Txt K mg) (CM : CMeetE P w K mg base) (CI : Callee P w K mg base 2 "_law_is_hueing" ["_law_web_here", "_law_row_here"] spIsHu) : FnOk P w K mg base CX0 3 f fd ["_law_web_here", "_law_hueing_here", "_law_step"] spStepped := by
  refine F.ok scStepped (fun vs H Q E h => ?_) (fun cdv A outer s H vs Q E hr h => ?_)
  · obtain ⟨_, _, _, _, _, _, rfl, _⟩ := h; rfl
  · obtain ⟨w0, a, st, m, es, row, rfl, W, R, h⟩ := h
    have hr1 : Room 1 _ := hr.mono (by decide)
    obtain ⟨ta, us, hw, ht0, htl, he, hbd, h61, hm0, hm12⟩ := id W
    have wn : ∀ (m : Int) (ta : Addr), atI [V.int m, V.ref ta] 1 = some (.ref ta) := fun _ _ => rfl
    refine ⟨_, pss_cons (ps_set (i := 3) scStepped.nd rfl (Or.inl rfl) (pe_callTy call_list_of (by rfl) T.list b_list (pa_cons (pv 1) pa_nil)))
      (pss_cons (ps_set (i := 4) scStepped.nd rfl (Or.inl rfl) (pe_callB call_len_seq (by rfl) T.len b_len (pa_cons (pe_ix ix_tup (pv 0) pe_int (fun _ _ => rfl)) pa_nil)))
      (pss_cons (ps_if (pt_cmpR op_eq (pe_ix ix_tup (pv 2) pe_int (fun _ _ => rfl)) pe_str (nomark _)) pss_no pss_nil)
      (pss_cons (ps_if (pw_or (pt_not (pt_chain op_le op_lt pe_int (pe_ix ix_tup (pv 2) pe_int (fun _ _ => rfl)) (pv 4))) (pw_or1 (pt_cmpR op_ne (pe_cmp (pc_isN (pe_ix ix_list (pv 3) (pe_ix ix_tup (pv 2) pe_int (fun _ _ => rfl)) (fun _ _ => rfl)))) (pe_cmpR op_eq (pe_ix ix_tup (pv 2) pe_int (fun _ _ => rfl)) pe_str (nomark _)) (nomark _)))).pt pss_no pss_nil)
      (pss_cons (ps_if (pt_cmpR op_eq (pe_ix ix_tup (pv 2) pe_int (fun _ _ => rfl)) pe_str (nomark _)) (pss_one (ps_asg (pe_ix ix_tup (pv 2) pe_int (fun _ _ => rfl)) (pg_sub (pv 3) (pe_ix ix_tup (pv 2) pe_int (fun _ _ => rfl)) set_list))) pss_nil)
      (pss_cons (ps_if (pt_cmpR op_eq (pe_ix ix_tup (pv 2) pe_int (fun _ _ => rfl)) pe_str (nomark _)) pss_no pss_nil)
      (pss_cons (ps_if (pt_cmpR op_eq (pe_ix ix_tup (pv 2) pe_int (fun _ _ => rfl)) pe_str (nomark _))
        (pss_cons (ps_if (pw_or (pt_not (pt_chain op_le op_lt pe_int (pe_ix ix_tup (pv 2) pe_int (fun _ _ => rfl)) (pv 4))) (pw_or (pt_cmp (pc_notN (pe_ix ix_list (pv 3) (pe_ix ix_tup (pv 2) pe_int (fun _ _ => rfl)) (fun _ _ => rfl)))) (pw_or1 (pt_not (pt_val (pe_def CM hr1 (by rfl) (pa_cons (pv 0) (pa_cons (pe_ix ix_tup (pv 2) pe_int (fun _ _ => rfl)) (pa_cons (pe_ix ix_tup (pv 2) pe_int (fun _ _ => rfl)) pa_nil))))))))).pt pss_no pss_nil)
        (pss_one (ps_asg (pe_tup (pa_cons pe_non (pa_cons (pe_ix ix_list (pv 1) (pe_ix ix_tup (pv 2) pe_int (fun _ _ => rfl)) (fun _ _ => rfl)) pa_nil))) (pg_tup rfl (pgs_cons (pg_sub (pv 3) (pe_ix ix_tup (pv 2) pe_int (fun _ _ => rfl)) set_list) (pgs_cons (pg_sub (pv 3) (pe_ix ix_tup (pv 2) pe_int (fun _ _ => rfl)) set_list) pgs_nil)))))) pss_nil)
      (pss_one (ps_ret (pe_ifExp (pt_val (pe_def CI hr (by rfl) (pa_cons (pv 0) (pa_cons (pv 3) pa_nil)))) (pv 3) pe_non))))))))), ?_⟩
    refine ⟨_, rfl, a, _, rfl, .inl (SqL.of R.1), fun M hM => ?_⟩
    have s1 : Same H (upd H M (.lst row)) := same_new (Same.refl _) hM
    have m1 : (upd H M (.lst row)) M = some (.lst row) := upd_same
    generalize (upd H M (.lst row)) = H1 at s1 m1
    refine ⟨_, rfl, w0, _, _, _, rfl, rfl, SqT.of (s1 _ _ hw), wn m ta, ta, us, rfl, .inr (SqT.of (s1 _ _ ht0)), ?_⟩
    rw [htl]
    have W1 := W.mono (sameKT s1)
    have a1 := s1 _ _ R.1
    rcases h with ⟨x, y, hh, hq, ry, rx, mt, P2, q⟩ | ⟨x, c, hq, rx, hc, P2, q⟩
    · have q1 := s1 _ _ hq
      have t0 : atI [V.str "move", natV y, natV x] 0 = some (.str "move") := rfl
      have t1 : atI [V.str "move", natV y, natV x] 1 = some (natV y) := rfl
      have t2 : atI [V.str "move", natV y, natV x] 2 = some (natV x) := rfl
      have ly : y < row.length := (List.getElem?_eq_some_iff.mp ry).1
      have lx : x < row.length := (List.getElem?_eq_some_iff.mp rx).1
      have ly' : y < es.length := by rw [← R.2.1]; exact ly
      have lx' : x < es.length := by rw [← R.2.1]; exact lx
      refine ⟨_, rfl, st, _, _, _, rfl, rfl, SqT.of q1, t0, rfl, _, rfl, iteND s_mr ?_⟩
      refine ⟨_, rfl, st, _, _, _, rfl, rfl, SqT.of q1, t1, _, _, rfl, rfl, _, rfl, iteD (by omega) ?_⟩
      refine ⟨_, rfl, _, _, rfl, rfl, _, rfl, ?_⟩
      rw [decide_eq_true (show ((y : Nat) : Int) < ((es.length : Nat) : Int) by omega)]
      refine iteF ?_
      refine ⟨_, rfl, _, rfl, st, _, _, _, rfl, rfl, SqT.of q1, t1, M, _, _, _, rfl, rfl, SqL.of m1, atI_nat ry, ?_⟩
      refine ⟨_, rfl, st, _, _, _, rfl, rfl, SqT.of q1, t0, rfl, rfl, _, rfl, ?_⟩
      rw [decide_eq_false s_mh]
      refine iteF ?_
      refine ⟨_, rfl, st, _, _, _, rfl, rfl, SqT.of q1, t0, rfl, _, rfl, iteND s_mh ?_⟩
      refine ⟨_, rfl, st, _, _, _, rfl, rfl, SqT.of q1, t0, rfl, _, rfl, iteND s_md ?_⟩
      refine ⟨_, rfl, st, _, _, _, rfl, rfl, SqT.of q1, t0, rfl, _, rfl, iteD rfl ?_⟩
      refine ⟨_, rfl, st, _, _, _, rfl, rfl, SqT.of q1, t2, _, _, rfl, rfl, _, rfl, iteD (by omega) ?_⟩
      refine ⟨_, rfl, _, _, rfl, rfl, _, rfl, ?_⟩
      rw [decide_eq_true (show ((x : Nat) : Int) < ((es.length : Nat) : Int) by omega)]
      refine iteF ?_
      refine ⟨_, rfl, _, rfl, st, _, _, _, rfl, rfl, SqT.of q1, t2, M, _, _, _, rfl, rfl, SqL.of m1, atI_nat rx, _, rfl, iteNS rfl ?_⟩
      refine ⟨_, rfl, _, rfl, st, _, _, _, rfl, rfl, SqT.of q1, t1, _, rfl, st, _, _, _, rfl, rfl, SqT.of q1, t2, w0, m, es, y, x, rfl, W1, ly', lx', ?_⟩
      rw [mt]
      refine ⟨_, rfl, iteF ?_⟩
      refine ⟨_, rfl, _, rfl, st, _, _, _, rfl, rfl, SqT.of q1, t1, a, _, _, _, rfl, rfl, SqL.of a1, atI_nat ry, by show 2 ≤ sizeLine; decide, fun tp htp => ?_⟩
      have s2 : Same H1 (upd H1 tp (.tup [.non, .int hh])) := same_new (Same.refl _) htp
      have p2 : (upd H1 tp (.tup [.non, .int hh])) tp = some (.tup [.non, .int hh]) := upd_same
      generalize (upd H1 tp (.tup [.non, .int hh])) = H2 at s2 p2
      refine ⟨tp, _, rfl, SqT.of p2, rfl, _, _, rfl, ?_⟩
      have m2 := s2 _ _ m1
      have nM2 : H M = none := hM
      refine ⟨_, rfl, _, rfl, st, _, _, _, rfl, rfl, SqT.of (s2 _ _ q1), t1, M, _, _, y, rfl, rfl, m2, ix_set ly, ?_⟩
      refine ⟨_, _, rfl, ?_⟩
      have s3 : Same H (upd H2 M (.lst (row.set y .non))) := same_own (s1.trans s2) hM
      refine ⟨_, rfl, _, rfl, st, _, _, _, rfl, rfl, SqT.of (s3 _ _ hq), t2, M, _, _, x, rfl, rfl, upd_same, ix_set (by rw [List.length_set]; exact lx), ?_⟩
      rw [upd_upd]
      have s4 : Same H (upd H2 M (.lst ((row.set y .non).set x (.int hh)))) := same_own (s1.trans s2) hM
      have m4 : (upd H2 M (.lst ((row.set y .non).set x (.int hh)))) M = some (.lst ((row.set y .non).set x (.int hh))) := upd_same
      generalize (upd H2 M (.lst ((row.set y .non).set x (.int hh)))) = H4 at s4 m4
      have hh0 : 0 ≤ hh := by
        rcases R.2.2 _ (List.mem_of_getElem? ry) with z | ⟨n, z, hn⟩
        · cases z
        · injection z with z; omega
      have L4 : LRow H4 M es ((row.set y .non).set x (.int hh)) := ⟨m4, by simp [R.2.1], set_hue (set_hue R.2.2 (.inl rfl)) (.inr ⟨hh, rfl, hh0⟩)⟩
      refine ⟨rfl, _, rfl, _, rfl, w0, M, m, es, _, rfl, W.mono (sameKT s4), L4, P2, fun H5 s5 => ⟨_, rfl, iteT ⟨_, rfl, q M H5 (s4.trans s5) hM (L4.same s5)⟩⟩⟩
    · have q1 := s1 _ _ hq
      have t0 : atI [V.str "hue", natV x, .int c] 0 = some (.str "hue") := rfl
      have t1 : atI [V.str "hue", natV x, .int c] 1 = some (natV x) := rfl
      have t2 : atI [V.str "hue", natV x, .int c] 2 = some (.int c) := rfl
      have lx : x < row.length := (List.getElem?_eq_some_iff.mp rx).1
      have lx' : x < es.length := by rw [← R.2.1]; exact lx
      refine ⟨_, rfl, st, _, _, _, rfl, rfl, SqT.of q1, t0, rfl, _, rfl, iteND s_hr ?_⟩
      refine ⟨_, rfl, st, _, _, _, rfl, rfl, SqT.of q1, t1, _, _, rfl, rfl, _, rfl, iteD (by omega) ?_⟩
      refine ⟨_, rfl, _, _, rfl, rfl, _, rfl, ?_⟩
      rw [decide_eq_true (show ((x : Nat) : Int) < ((es.length : Nat) : Int) by omega)]
      refine iteF ?_
      refine ⟨_, rfl, _, rfl, st, _, _, _, rfl, rfl, SqT.of q1, t1, M, _, _, _, rfl, rfl, SqL.of m1, atI_nat rx, ?_⟩
      refine ⟨_, rfl, st, _, _, _, rfl, rfl, SqT.of q1, t0, rfl, rfl, _, rfl, iteNS (by simp) ?_⟩
      refine ⟨_, rfl, st, _, _, _, rfl, rfl, SqT.of q1, t0, rfl, _, rfl, iteD rfl ?_⟩
      refine ⟨_, rfl, st, _, _, _, rfl, rfl, SqT.of q1, t2, _, rfl, _, rfl, st, _, _, _, rfl, rfl, SqT.of q1, t1, M, _, _, x, rfl, rfl, m1, ix_set lx, ?_⟩
      have s4 : Same H (upd H1 M (.lst (row.set x (.int c)))) := same_own s1 hM
      have m4 : (upd H1 M (.lst (row.set x (.int c)))) M = some (.lst (row.set x (.int c))) := upd_same
      generalize (upd H1 M (.lst (row.set x (.int c)))) = H4 at s4 m4
      refine ⟨_, rfl, st, _, _, _, rfl, rfl, SqT.of (s4 _ _ hq), t0, rfl, _, rfl, iteND s_hd ?_⟩
      refine ⟨_, rfl, st, _, _, _, rfl, rfl, SqT.of (s4 _ _ hq), t0, rfl, _, rfl, iteND s_hm ?_⟩
      have L4 : LRow H4 M es (row.set x (.int c)) := ⟨m4, by simp [R.2.1], set_hue R.2.2 (.inr ⟨c, rfl, hc⟩)⟩
      refine ⟨_, rfl, _, rfl, w0, M, m, es, _, rfl, W.mono (sameKT s4), L4, P2, fun H5 s5 => ⟨_, rfl, iteT ⟨_, rfl, q M H5 (s4.trans s5) hM (L4.same s5)⟩⟩⟩
end
end Hue
set_option Elab.async false
set_option linter.all false
set_option maxRecDepth 100000
set_option maxHeartbeats 1500000
namespace Hue
open PySem L2
abbrev sHues : Stmt := top 11
abbrev sFar : Stmt := top 15
abbrev sFan : Stmt := top 16
def spHues : Sp := fun vs H Q _ => ∃ (w a : Addr) (m : Int) (es : List (Int × Int)) (row : List V) (p : Int), vs = [.ref w, .ref a, .int p] ∧ WebE H w m es ∧ LRow H a es row ∧
  ∀ l H', H l = none → Same H H' → H' l = some (.lst (hsL es row p es.length)) → Q (.ref l) H'
def spFar : Sp := fun vs H Q _ => ∃ (w : Addr) (m : Int) (es : List (Int × Int)) (k : Nat) (p : Int), vs = [.ref w, .int k, .int p] ∧ WebE H w m es ∧ k < es.length ∧ Q (.int (farI es k p)) H
def huB (es : List (Int × Int)) (row : List V) (p : Int) (k : Nat) : Bool := match es[k]?, hueO row k with
  | some e, some _ => atE p e
  | _, _ => false
def nearL (es : List (Int × Int)) (row : List V) (p : Int) : Nat → List Nat
  | 0 => []
  | n + 1 => nearL es row p n ++ (if huB es row p n = true then [n] else [])
theorem nearL_mem {es : List (Int × Int)} {row : List V} {p : Int} : ∀ {n k : Nat}, k ∈ nearL es row p n → k < n ∧ Hued es row p k
  | 0, k, h => by cases h
  | n + 1, k, h => by
    rw [nearL, List.mem_append] at h
    rcases h with h | h
    · obtain ⟨h1, h2⟩ := nearL_mem h
      exact ⟨by omega, h2⟩
    · split at h
      · rename_i z
        have : k = n := by simpa using h
        subst this
        refine ⟨by omega, ?_⟩
        unfold huB at z
        split at z
        · rename_i e c e1 e2
          exact ⟨⟨e, e1, atE_iff.mp z⟩, c, hueO_iff.mp e2⟩
        · cases z
      · cases h
theorem nearL_nd {es : List (Int × Int)} {row : List V} {p : Int} : ∀ n, (nearL es row p n).Nodup
  | 0 => by simp [nearL]
  | n + 1 => by
    rw [nearL, List.nodup_append]
    refine ⟨nearL_nd n, by split <;> simp, fun x hx y hy z => ?_⟩
    subst z
    have := (nearL_mem hx).1
    split at hy
    · have : x = n := by simpa using hy
      omega
    · cases hy
theorem nearL_len {es : List (Int × Int)} {row : List V} {p : Int} : ∀ n, (nearL es row p n).length ≤ n
  | 0 => Nat.le_refl _
  | n + 1 => by
    have := nearL_len (es := es) (row := row) (p := p) n
    rw [nearL, List.length_append]
    split <;> simp <;> omega
theorem near_ok {es : List (Int × Int)} {row : List V} {p : Int} {k : Nat} (hk : row[k]? = some .non) (n : Nat) : NearOk es row p [(k, none)] (nearL es row p n) :=
  ⟨fun o ho => (nearL_mem ho).2, (fun o ho z => by
    have : o = k := by simpa using z
    subst this
    obtain ⟨_, h, e⟩ := (nearL_mem ho).2
    rw [hk] at e
    cases e), nearL_nd n⟩
theorem fan_one {es : List (Int × Int)} {row : List V} {p : Int} {k : Nat} {e : Int × Int} (hk : row[k]? = some .non) (he : es[k]? = some e) (hp : p = e.1 ∨ p = e.2) : FanOk es row p [(k, none)] :=
  ⟨⟨k, rfl, hk⟩, fun i f hf => by simp at hf, fun f hf => by rw [List.mem_singleton.mp hf]; exact ⟨e, he, hp⟩, by simp⟩
def fanOf (es : List (Int × Int)) (row : List V) (p hh : Int) (k : Nat) : Fan := fanL es row p hh (nearL es row p es.length).length [(k, none)] (nearL es row p es.length)
def spFan : Sp := fun vs H Q _ => ∃ (w a : Addr) (m : Int) (es : List (Int × Int)) (row : List V) (k : Nat) (p hh : Int) (e : Int × Int), vs = [.ref w, .ref a, .int k, .int p, .int hh] ∧ WebE H w m es ∧ LRow H a es row ∧ row[k]? = some .non ∧ es[k]? = some e ∧ (p = e.1 ∨ p = e.2) ∧
  ∀ l H', Same H H' → H l = none → FanAt H' l (fanOf es row p hh k) → Q (.ref l) H'
def RowsAt (H : Hp) (R fa na : Addr) (es : List (Int × Int)) (row : List V) (p : Int) (F : Fan) : Prop := ∃ rs, H R = some (.lst rs) ∧ rs.length = F.length ∧ ∀ (i : Nat) v, rs[i]? = some v → ∃ q f, v = .ref q ∧ F[i]? = some f ∧ H q = some (.lst (hsL es row (farI es f.1 p) es.length)) ∧ q ≠ fa ∧ q ≠ na ∧ q ≠ R
theorem RowsAt.same {H H' : Hp} {R fa na : Addr} {es : List (Int × Int)} {row : List V} {p : Int} {F : Fan} (h : RowsAt H R fa na es row p F) (s : Same H H') : RowsAt H' R fa na es row p F :=
  let ⟨rs, a, b, c⟩ := h; ⟨rs, s _ _ a, b, fun i v hv => let ⟨q, f, e1, e2, e3, r⟩ := c i v hv; ⟨q, f, e1, e2, s _ _ e3, r⟩⟩
theorem eqVs_cn {x : V} {xs : List V} : eqVs (x :: xs) [] = false := by simp [eqVs]
theorem eqVs_nn : eqVs [] [] = true := by simp [eqVs]
theorem first_ix {ls : List Nat} {o : Nat} (h : o ∈ ls) : ∃ j, ls[j]? = some o ∧ (∀ m, m < j → ls[m]? ≠ some o) ∧ ls.erase o = ls.eraseIdx j := by
  refine ⟨ls.idxOf o, ?_, fun m hm z => ?_, List.erase_eq_eraseIdx_of_idxOf rfl⟩
  · have := List.idxOf_lt_length_of_mem h
    rw [List.getElem?_eq_getElem this, List.getElem_idxOf]
  · obtain ⟨h1, h2⟩ := List.getElem?_eq_some_iff.mp z
    have := List.not_of_lt_findIdx (p := (· == o)) (xs := ls) (i := m) hm
    rw [h2] at this
    simp at this
theorem eraseIdx_map' {α β : Type} (f : α → β) : ∀ (ls : List α) (k : Nat), (ls.map f).eraseIdx k = (ls.eraseIdx k).map f
  | [], k => by simp
  | x :: ls, 0 => by simp
  | x :: ls, k + 1 => by simp [eraseIdx_map' f ls k]
theorem natV_map (ls : List Nat) : ls.map natV = (ls.map (fun (n : Nat) => (n : Int))).map V.int := by rw [List.map_map]; rfl
theorem nd_tphp : ((["_law_tie", "_law_pair"] : List Str) ++ (["_law_hueing_here", "_law_place"] : List Str)).Nodup := by decide +kernel
theorem nd_ophp : ((["_law_one", "_law_pair"] : List Str) ++ (["_law_hueing_here", "_law_place"] : List Str)).Nodup := by decide +kernel
theorem nd_arhho : ((["_law_at", "_law_row_here"] : List Str) ++ (["_law_hueing_here", "_law_hues_here", "_law_other"] : List Str)).Nodup := by decide +kernel
section
variable {P : Program} {w : World} {K : PySem.W.Frag} {mg : Str → Option Value} {base : Heap}
theorem scHues : FnScope ["_law_web_here", "_law_hueing_here", "_law_place"] ["_law_web_here", "_law_hueing_here", "_law_place"] (defScope sHues) := ⟨rfl, rfl, rfl, by decide +kernel, rfl, by decide +kernel, by decide +kernel⟩
theorem ok_hues {f : Addr} {fd : FuncData} (F : Fun K "_law_hues" "_law_hues" sHues f fd) (T : Txt K mg) : FnOk P w K mg base CX0 1 f fd ["_law_web_here", "_law_hueing_here", "_law_place"] spHues := by
  refine F.ok scHues (fun vs H Q E h => ?_) (fun cdv A outer s H vs Q E hr h => ?_)
  · obtain ⟨_, _, _, _, _, _, rfl, _⟩ := h; rfl
  · obtain ⟨w0, a, m, es, row, p, rfl, W, R, q⟩ := h
    refine ⟨_, pss_one (ps_ret (pe_comp ["_law_tie", "_law_pair"] ["_law_hueing_here", "_law_place"] [1, 2] (pi_enum (by rfl) T.enum (pa_cons (pe_ix ix_tup (pv 0) pe_int (fun _ _ => rfl)) pa_nil))
      (fun _ _ _ _ _ => pg_tupK (K := K) (n := 2) rfl rfl (pgs_cons (pg_name (i := 0) nd_tphp rfl (Or.inl rfl)) (pgs_cons (pg_name (i := 1) nd_tphp rfl (Or.inl rfl)) pgs_nil)))
      (fun _ _ _ _ _ => pifs_one (pw_and (pt_cmpR (op_inK (K := K) rfl) (pv 3) (pv 1) (by with_unfolding_all rfl)) (pw_and1 (pt_cmp (pc_notN (pe_ix (ix_listK (K := K) rfl) (pv 2) (pv 0) (fun _ _ => rfl)))))).pt)
      (fun _ _ _ _ _ => pe_ix (ix_listK (K := K) rfl) (pv 2) (pv 0) (fun _ _ => rfl)))), ?_⟩
    obtain ⟨ta, ts, hw, ht, htl, he, hb, h61, hm⟩ := W
    refine ⟨_, rfl, w0, _, _, _, rfl, rfl, SqT.of hw, (rfl : atI [V.int m, V.ref ta] 1 = some (.ref ta)), ta, rfl, .inr ⟨⟨_, SqT.of ht⟩, fun D hD => comp_enumT (K := K) (a := ta) (xs := ts)
      (fun i ys H2 => Same H H2 ∧ H2 D = some (.lst ys) ∧ ys = hsL es row p i) ⟨same_new (Same.refl _) hD, upd_same, rfl⟩ (fun i ys H2 _ h => SqT.of (h.1 _ _ ht)) ?_ ?_⟩⟩
    · rintro i v ys H2 pp hv ⟨s2, d2, rfl⟩ hpp
      obtain ⟨qv, e, rfl, ee, hq⟩ := he i v hv
      have hi : i < ts.length := (List.getElem?_eq_some_iff.mp hv).1
      have hir : i < row.length := by rw [R.2.1]; omega
      have hri : row[i]? = some (row[i]'hir) := by simp
      have s3 : Same H (upd H2 pp (.tup [.int (i : Int), .ref qv])) := same_new s2 hpp
      have d3 := keepN (u := .tup [.int (i : Int), .ref qv]) d2 hpp
      generalize hH3 : (upd H2 pp (.tup [.int (i : Int), .ref qv])) = H3 at s3 d3
      have p3 : H3 pp = some (.tup [.int (i : Int), .ref qv]) := by rw [← hH3]; exact upd_same
      refine ⟨pp, _, rfl, SqT.of p3, rfl, _, _, rfl, _, _, rfl, rfl, ?_⟩
      refine ⟨_, rfl, _, rfl, qv, _, rfl, .inr (SqT.of (s3 _ _ hq)), rfl, rfl, _, rfl, ?_⟩
      show if inV (.int p) [.int e.1, .int e.2] = true then _ else _
      rw [inV_pair]
      have no : (∀ h, hueO row i = some h → atE p e = true → False) → hsL es row p i = hsL es row p (i + 1) := fun z => by
        rw [hsL, ee]
        cases eh : hueO row i with
        | none => simp
        | some h =>
          have : ¬ atE p e = true := fun y => z h eh y
          simp [this]
      refine ite2 (fun z => ?_) (fun z => iteF ⟨s3, d3, no fun h _ y => z y⟩)
      refine ⟨_, rfl, _, rfl, a, row, _, _, rfl, rfl, SqL.of (s3 _ _ R.1), atI_nat hri, _, rfl, ?_⟩
      rcases R.2.2 _ (List.getElem_mem hir) with e1 | ⟨n, e1, _⟩
      · rw [e1] at hri ⊢
        exact iteNS rfl ⟨s3, d3, no fun h eh _ => by rw [hueO_iff, hri] at eh; cases eh⟩
      · rw [e1] at hri ⊢
        refine iteNT (fun z => nomatch z) ⟨_, rfl, _, rfl, a, row, _, _, rfl, rfl, SqL.of (s3 _ _ R.1), atI_nat hri, d3, small1000 (by have := hsL_len es row p i; omega), same_own s3 hD, upd_same, ?_⟩
        rw [hsL, ee, hueO_iff.mpr hri]
        simp [z]
    · rintro ys H2 ⟨s2, d2, rfl⟩
      rw [htl] at d2
      exact q D H2 hD s2 d2
theorem scFar : FnScope ["_law_web_here", "_law_tie", "_law_place"] ["_law_web_here", "_law_tie", "_law_place"] (defScope sFar) := ⟨rfl, rfl, rfl, by decide +kernel, rfl, by decide +kernel, by decide +kernel⟩
theorem ok_far {f : Addr} {fd : FuncData} (F : Fun K "_law_far" "_law_far" sFar f fd) (zu : mg "sum" = none) : FnOk P w K mg base CX0 1 f fd ["_law_web_here", "_law_tie", "_law_place"] spFar := by
  refine F.ok scFar (fun vs H Q E h => ?_) (fun cdv A outer s H vs Q E hr h => ?_)
  · obtain ⟨_, _, _, _, _, rfl, _⟩ := h; rfl
  · obtain ⟨w0, m, es, k, p, rfl, W, hk, q⟩ := h
    refine ⟨_, pss_one (ps_ret (pe_op op_sub (pe_callB (call_sum2 rfl) (by rfl) zu b_sum (pa_cons (pe_ix ix_tup (pe_ix ix_tup (pv 0) pe_int (fun _ _ => rfl)) (pv 1) (fun _ _ => rfl)) pa_nil)) (pv 2))), ?_⟩
    obtain ⟨ta, ts, hw, ht, htl, he, hb, h61, hm⟩ := W
    have hk' : k < ts.length := by omega
    obtain ⟨qv, e, ev, ee, hq⟩ := he k _ (List.getElem?_eq_getElem hk')
    refine ⟨_, rfl, w0, _, _, _, rfl, rfl, SqT.of hw, (rfl : atI [V.int m, V.ref ta] 1 = some (.ref ta)), _, rfl, ta, ts, _, _, rfl, rfl, SqT.of ht, atI_nat (by rw [List.getElem?_eq_getElem hk', ev]), ?_⟩
    refine ⟨qv, e.1, e.2, rfl, SqT.of hq, _, rfl, _, _, rfl, rfl, ?_⟩
    unfold farI at q
    rw [ee] at q
    exact q
end
end Hue
set_option Elab.async false
set_option linter.all false
set_option maxRecDepth 100000
set_option maxHeartbeats 2000000
namespace Hue
open PySem L2
theorem PrF.add {H : Hp} {vs : List V} {F : Fan} {q : Addr} {f : Nat × Option Nat} (h : PrF H vs F) (hq : H q = some (.tup [natV f.1, optV f.2])) : PrF H (vs ++ [.ref q]) (F ++ [f]) := by
  refine ⟨by simp [h.1], fun i v hv => ?_⟩
  by_cases z : i < vs.length
  · rw [List.getElem?_append_left z] at hv
    obtain ⟨q', f', a, b, c⟩ := h.2 i v hv
    exact ⟨q', f', a, by rw [List.getElem?_append_left (by rw [← h.1]; exact z)]; exact b, c⟩
  · have hl := (List.getElem?_eq_some_iff.mp hv).1
    rw [List.length_append] at hl
    have : i = vs.length := by simp at hl; omega
    subst this
    rw [List.getElem?_append_right (Nat.le_refl _)] at hv
    have : v = .ref q := by simpa using hv.symm
    subst this
    exact ⟨q, f, rfl, by rw [h.1, List.getElem?_append_right (Nat.le_refl _)]; simp, hq⟩
def RowsV (H : Hp) (rs : List V) (R fa na : Addr) (es : List (Int × Int)) (row : List V) (p : Int) (F : Fan) : Prop := rs.length = F.length ∧ ∀ (i : Nat) v, rs[i]? = some v → ∃ q f, v = .ref q ∧ F[i]? = some f ∧ H q = some (.lst (hsL es row (farI es f.1 p) es.length)) ∧ q ≠ fa ∧ q ≠ na ∧ q ≠ R
theorem RowsV.add {H : Hp} {rs : List V} {R fa na : Addr} {es : List (Int × Int)} {row : List V} {p : Int} {F : Fan} {q : Addr} {f : Nat × Option Nat} (h : RowsV H rs R fa na es row p F) (hq : H q = some (.lst (hsL es row (farI es f.1 p) es.length))) (d1 : q ≠ fa) (d2 : q ≠ na) (d3 : q ≠ R) : RowsV H (rs ++ [.ref q]) R fa na es row p (F ++ [f]) := by
  refine ⟨by simp [h.1], fun i v hv => ?_⟩
  by_cases z : i < rs.length
  · rw [List.getElem?_append_left z] at hv
    obtain ⟨q', f', a, b, c⟩ := h.2 i v hv
    exact ⟨q', f', a, by rw [List.getElem?_append_left (by rw [← h.1]; exact z)]; exact b, c⟩
  · have hl := (List.getElem?_eq_some_iff.mp hv).1
    rw [List.length_append] at hl
    have : i = rs.length := by simp at hl; omega
    subst this
    rw [List.getElem?_append_right (Nat.le_refl _)] at hv
    have : v = .ref q := by simpa using hv.symm
    subst this
    exact ⟨q, f, rfl, by rw [h.1, List.getElem?_append_right (Nat.le_refl _)]; simp, hq, d1, d2, d3⟩
theorem RowsV.same {H H' : Hp} {rs : List V} {R fa na : Addr} {es : List (Int × Int)} {row : List V} {p : Int} {F : Fan} (h : RowsV H rs R fa na es row p F) (s : Same H H') : RowsV H' rs R fa na es row p F :=
  ⟨h.1, fun i v hv => let ⟨q, f, e1, e2, e3, r⟩ := h.2 i v hv; ⟨q, f, e1, e2, s _ _ e3, r⟩⟩
theorem RowsV.upd {H : Hp} {rs : List V} {R fa na x : Addr} {o : HO} {es : List (Int × Int)} {row : List V} {p : Int} {F : Fan} (h : RowsV H rs R fa na es row p F) (hx : x = fa ∨ x = na ∨ x = R) : RowsV (upd H x o) rs R fa na es row p F :=
  ⟨h.1, fun i v hv => let ⟨q, f, e1, e2, e3, r1, r2, r3⟩ := h.2 i v hv; ⟨q, f, e1, e2, keepO e3 (by rcases hx with rfl | rfl | rfl; exact r1; exact r2; exact r3), r1, r2, r3⟩⟩
structure FSt (H H2 : Hp) (fa ra na : Addr) (es : List (Int × Int)) (row : List V) (p : Int) (F : Fan) (near : List Nat) (vs rs : List V) : Prop where
  s : Same H H2
  f : H2 fa = some (.lst vs)
  pf : PrF H2 vs F
  r : H2 ra = some (.lst rs)
  pr : RowsV H2 rs ra fa na es row p F
  n : H2 na = some (.lst (near.map natV))
theorem FSt.same {H H2 H3 : Hp} {fa ra na : Addr} {es : List (Int × Int)} {row : List V} {p : Int} {F : Fan} {near : List Nat} {vs rs : List V} (h : FSt H H2 fa ra na es row p F near vs rs) (s : Same H2 H3) : FSt H H3 fa ra na es row p F near vs rs :=
  ⟨h.s.trans s, s _ _ h.f, h.pf.mono (sameKT s), s _ _ h.r, h.pr.same s, s _ _ h.n⟩
def FurV (H : Hp) : Option (Nat × Nat) → V → Prop
  | none, v => v = .non
  | some ob, v => ∃ q, v = .ref q ∧ H q = some (.tup [natV ob.1, natV ob.2])
theorem FurV.same {H H' : Hp} (s : Same H H') : ∀ {fu : Option (Nat × Nat)} {v : V}, FurV H fu v → FurV H' fu v
  | none, _, h => h
  | some _, _, ⟨q, e, h⟩ => ⟨q, e, s _ _ h⟩
theorem nat_at {ls : List Nat} {i : Nat} {x : V} (hx : (ls.map natV)[i]? = some x) : ∃ c, ls[i]? = some c ∧ natV c = x := by
  rw [List.getElem?_map] at hx
  cases e : ls[i]? with
  | none => rw [e] at hx; cases hx
  | some c => rw [e] at hx; exact ⟨c, rfl, by simpa using hx⟩
section
variable {P : Program} {w : World} {K : PySem.W.Frag} {mg : Str → Option Value} {base : Heap}
theorem scFan : FnScope ["_law_web_here", "_law_hueing_here", "_law_tie", "_law_place", "_law_hues_here", "_law_fan_here", "_law_rows", "_law_near", "_law_turn", "_law_further", "_law_other", "_law_backs"] ["_law_web_here", "_law_hueing_here", "_law_tie", "_law_place", "_law_hues_here"] (defScope sFan) := ⟨rfl, rfl, rfl, by decide +kernel, rfl, by decide +kernel, by decide +kernel⟩
theorem ok_fan {f : Addr} {fd : FuncData} (F0 : Fun K "_law_fan" "_law_fan" sFan f fd) (T : Txt K mg) (CH : Callee P w K mg base 1 "_law_hues" ["_law_web_here", "_law_hueing_here", "_law_place"] spHues) (CF : Callee P w K mg base 1 "_law_far" ["_law_web_here", "_law_tie", "_law_place"] spFar) : FnOk P w K mg base CX0 2 f fd ["_law_web_here", "_law_hueing_here", "_law_tie", "_law_place", "_law_hues_here"] spFan := by
  refine F0.ok scFan (fun vs H Q E h => ?_) (fun cdv A outer s H vs Q E hr h => ?_)
  · obtain ⟨_, _, _, _, _, _, _, _, _, rfl, _⟩ := h; rfl
  · obtain ⟨w0, a, m, es, row, k, p, hh, e0, rfl, W, R, hk, hek, hpe, q⟩ := h
    have hu := hr.units0
    refine ⟨_, pss_cons (ps_set (i := 5) scFan.nd rfl (Or.inl rfl) (pe_lst (pa_cons (pe_tup (pa_cons (pv 2) (pa_cons pe_non pa_nil))) pa_nil)))
      (pss_cons (ps_set (i := 6) scFan.nd rfl (Or.inl rfl) (pe_lst (pa_cons (pe_def CH hr (by rfl) (pa_cons (pv 0) (pa_cons (pv 1) (pa_cons (pe_def CF hr (by rfl) (pa_cons (pv 0) (pa_cons (pv 2) (pa_cons (pv 3) pa_nil)))) pa_nil)))) pa_nil)))
      (pss_cons (ps_setComp (i := 7) ["_law_one", "_law_pair"] ["_law_hueing_here", "_law_place"] [1, 3] scFan.nd rfl rfl (pi_enum (by rfl) T.enum (pa_cons (pe_ix ix_tup (pv 0) pe_int (fun _ _ => rfl)) pa_nil))
          (fun _ _ _ _ _ => pg_tupK (K := K) (n := 2) rfl rfl (pgs_cons (pg_name (i := 0) nd_ophp rfl (Or.inl rfl)) (pgs_cons (pg_name (i := 1) nd_ophp rfl (Or.inl rfl)) pgs_nil)))
          (fun _ _ _ _ _ => pifs_one (pw_and (pt_cmpR (op_inK (K := K) rfl) (pv 3) (pv 1) (by with_unfolding_all rfl)) (pw_and1 (pt_cmp (pc_notN (pe_ix (ix_listK (K := K) rfl) (pv 2) (pv 0) (fun _ _ => rfl)))))).pt) (fun _ _ _ _ _ => pv 0))
      (pss_cons (ps_for PassesOwn.never rfl (pi_range1 (by rfl) T.range (pa_cons (pe_callB call_len_seq (by rfl) T.len b_len (pa_cons (pv 7) pa_nil)) pa_nil)) (pg_name (i := 8) scFan.nd rfl (Or.inl rfl))
        (pss_cons (ps_set (i := 9) scFan.nd rfl (Or.inl rfl) pe_non)
        (pss_cons (ps_for PassesOwn.never rfl (pi_list (pv 7)) (pg_name (i := 10) scFan.nd rfl (Or.inr rfl))
          (pss_cons (ps_setComp (i := 11) ["_law_at", "_law_row_here"] ["_law_hueing_here", "_law_hues_here", "_law_other"] [1, 4, 10] scFan.nd rfl rfl (pi_enum (by rfl) T.enum (pa_cons (pv 6) pa_nil))
              (fun _ _ _ _ _ => pg_tupK (K := K) (n := 2) rfl rfl (pgs_cons (pg_name (i := 0) nd_arhho rfl (Or.inl rfl)) (pgs_cons (pg_name (i := 1) nd_arhho rfl (Or.inl rfl)) pgs_nil)))
              (fun _ _ _ _ _ => pifs_one (pw_and (pt_cmpR op_lt (pe_ix (ix_listK (K := K) rfl) (pv 2) (pv 4) (fun _ _ => rfl)) (pv 3) (nomark _)) (pw_and1 (pt_cmpR (op_notInK (K := K) rfl) (pe_ix (ix_listK (K := K) rfl) (pv 2) (pv 4) (fun _ _ => rfl)) (pv 1) (by with_unfolding_all rfl)))).pt) (fun _ _ _ _ _ => pv 0))
          (pss_one (ps_if (pw_and (pt_cmp (pc_isN (pv 9))) (pw_and1 (pt_cmpR (op_neL hu) (pv 11) (pe_lst pa_nil) (nomark _)))).pt (pss_one (ps_set (i := 9) scFan.nd rfl (Or.inl rfl) (pe_tup (pa_cons (pv 10) (pa_cons (pe_ix ix_list (pv 11) pe_int (fun _ _ => rfl)) pa_nil))))) pss_nil))))
        (pss_cons (ps_if (pt_cmp (pc_isN (pv 9))) (pss_one (ps_ret (pv 5))) pss_nil)
        (pss_cons (ps_expr (pe_bm PySem.F.plainAttrs_list PySem.F.slot_list_remove PySem.F.type_list_remove mt_remove (pv 7) (pa_cons (pe_ix ix_tup (pv 9) pe_int (fun _ _ => rfl)) pa_nil)))
        (pss_cons (ps_expr (pe_bm PySem.F.plainAttrs_list PySem.F.slot_list_append PySem.F.type_list_append mt_append (pv 5) (pa_cons (pv 9) pa_nil)))
        (pss_one (ps_expr (pe_bm PySem.F.plainAttrs_list PySem.F.slot_list_append PySem.F.type_list_append mt_append (pv 6) (pa_cons (pe_def CH hr (by rfl) (pa_cons (pv 0) (pa_cons (pv 1) (pa_cons (pe_def CF hr (by rfl) (pa_cons (pv 0) (pa_cons (pe_ix ix_tup (pv 9) pe_int (fun _ _ => rfl)) (pa_cons (pv 3) pa_nil)))) pa_nil)))) pa_nil))))))))))
      (pss_one (ps_ret (pv 5)))))), ?_⟩
    have hkl : k < es.length := (List.getElem?_eq_some_iff.mp hek).1
    obtain ⟨ta, ts, hw, ht, htl, he, hbd, h61, hm⟩ := id W
    refine ⟨_, rfl, by show 2 ≤ sizeLine; decide, fun q0 hq0 => ⟨by show 1 ≤ sizeLine; decide, fun fa hfa => ?_⟩⟩
    have s2 : Same H (upd (upd H q0 (.tup [.int (k : Int), .non])) fa (.lst [.ref q0])) := same_new (same_new (Same.refl _) hq0) hfa
    have f2 : (upd (upd H q0 (.tup [.int (k : Int), .non])) fa (.lst [.ref q0])) fa = some (.lst [.ref q0]) := upd_same
    have t2 : (upd (upd H q0 (.tup [.int (k : Int), .non])) fa (.lst [.ref q0])) q0 = some (.tup [.int (k : Int), .non]) := keepN upd_same hfa
    have nfa : H fa = none := (same_new (o := .tup [.int (k : Int), .non]) (Same.refl H) hq0).free hfa
    generalize (upd (upd H q0 (.tup [.int (k : Int), .non])) fa (.lst [.ref q0])) = H2 at s2 f2 t2
    refine ⟨_, rfl, _, rfl, _, rfl, _, rfl, _, rfl, w0, m, es, k, p, rfl, W.mono (sameKT s2), hkl, w0, a, m, es, row, farI es k p, rfl, W.mono (sameKT s2), R.same s2, fun l H3 nl s3 hl => ⟨by show 1 ≤ sizeLine; decide, fun ra hra => ?_⟩⟩
    have lfa : l ≠ fa := fun z => by subst z; rw [f2] at nl; cases nl
    have s4 : Same H2 (upd H3 ra (.lst [.ref l])) := same_new s3 hra
    have r4 : (upd H3 ra (.lst [.ref l])) ra = some (.lst [.ref l]) := upd_same
    have l4 : (upd H3 ra (.lst [.ref l])) l = some (.lst (hsL es row (farI es k p) es.length)) := keepN hl hra
    have fra : fa ≠ ra := ne_of_none (s3 _ _ f2) hra
    have lra : l ≠ ra := ne_of_none hl hra
    have nra : H ra = none := (s2.trans s3).free hra
    generalize (upd H3 ra (.lst [.ref l])) = H4 at s4 r4 l4
    have f4 := s4 _ _ f2
    have t4 := s4 _ _ t2
    have s04 := s2.trans s4
    refine ⟨_, rfl, w0, _, _, _, rfl, rfl, SqT.of (s04 _ _ hw), (rfl : atI [V.int m, V.ref ta] 1 = some (.ref ta)), ta, rfl, .inr ⟨⟨_, SqT.of (s04 _ _ ht)⟩, fun na hna => comp_enumT (K := K) (a := ta) (xs := ts)
      (fun i ys H5 => Same H4 H5 ∧ H5 na = some (.lst ys) ∧ ys = (nearL es row p i).map natV) ⟨same_new (Same.refl _) hna, upd_same, rfl⟩ (fun i ys H5 _ h => SqT.of (h.1 _ _ (s04 _ _ ht))) ?_ ?_⟩⟩
    · rintro i v ys H5 pp hv ⟨s5, d5, rfl⟩ hpp
      obtain ⟨qv, e, rfl, ee, hq⟩ := he i v hv
      have hi : i < ts.length := (List.getElem?_eq_some_iff.mp hv).1
      have hir : i < row.length := by rw [R.2.1]; omega
      have hri : row[i]? = some (row[i]'hir) := by simp
      have s6 : Same H4 (upd H5 pp (.tup [.int (i : Int), .ref qv])) := same_new s5 hpp
      have d6 := keepN (u := .tup [.int (i : Int), .ref qv]) d5 hpp
      have p6 : (upd H5 pp (.tup [.int (i : Int), .ref qv])) pp = some (.tup [.int (i : Int), .ref qv]) := upd_same
      generalize (upd H5 pp (.tup [.int (i : Int), .ref qv])) = H6 at s6 d6 p6
      have s06 := s04.trans s6
      refine ⟨pp, _, rfl, SqT.of p6, rfl, _, _, rfl, _, _, rfl, rfl, ?_⟩
      refine ⟨_, rfl, _, rfl, qv, _, rfl, .inr (SqT.of (s06 _ _ hq)), rfl, rfl, _, rfl, ?_⟩
      show if inV (.int p) [.int e.1, .int e.2] = true then _ else _
      rw [inV_pair]
      have no : ¬ huB es row p i = true → (nearL es row p i).map natV = (nearL es row p (i + 1)).map natV := fun z => by rw [nearL, if_neg z, List.append_nil]
      refine ite2 (fun z => ?_) (fun z => iteF ⟨s6, d6, no fun y => z ?_⟩)
      · refine ⟨_, rfl, _, rfl, a, row, _, _, rfl, rfl, SqL.of (s06 _ _ R.1), atI_nat hri, _, rfl, ?_⟩
        rcases R.2.2 _ (List.getElem_mem hir) with e1 | ⟨n, e1, _⟩
        · rw [e1] at hri ⊢
          refine iteNS rfl ⟨s6, d6, no fun y => ?_⟩
          unfold huB at y
          split at y
          · rename_i eh; rw [hueO_iff, hri] at eh; cases eh
          · cases y
        · rw [e1] at hri ⊢
          refine iteNT (fun z => nomatch z) ⟨_, rfl, d6, small1000 (by rw [List.length_map]; have := nearL_len (es := es) (row := row) (p := p) i; omega), same_own s6 hna, upd_same, ?_⟩
          rw [nearL, if_pos (by unfold huB; rw [ee, hueO_iff.mpr hri]; exact z), List.map_append]; rfl
      · unfold huB at y
        rw [ee] at y
        split at y
        · rename_i e1 _
          cases e1; exact y
        · cases y
    · rintro ys H5 ⟨s5, d5, rfl⟩
      rw [htl] at d5
      have nnl := nearL_len (es := es) (row := row) (p := p) es.length
      obtain ⟨near0, en0⟩ : ∃ near0, nearL es row p es.length = near0 := ⟨_, rfl⟩
      have efan : fanOf es row p hh k = fanL es row p hh near0.length [(k, none)] near0 := by unfold fanOf; rw [en0]
      have O0 : FanOk es row p [(k, none)] := fan_one hk hek hpe
      have N0 : NearOk es row p [(k, none)] near0 := by rw [← en0]; exact near_ok hk _
      rw [en0] at d5 nnl
      have nna : H na = none := s04.free hna
      have fna : fa ≠ na := ne_of_none f4 hna
      have rna : ra ≠ na := ne_of_none r4 hna
      have lna : l ≠ na := ne_of_none l4 hna
      have Z0 : FSt H H5 fa ra na es row p [(k, none)] near0 [.ref q0] [.ref l] := by
        refine ⟨s04.trans s5, s5 _ _ f4, ⟨rfl, fun i v hv => ?_⟩, s5 _ _ r4, ⟨rfl, fun i v hv => ?_⟩, d5⟩
        · match i with
          | 0 => cases hv; exact ⟨q0, (k, none), rfl, rfl, s5 _ _ t4⟩
          | i + 1 => simp at hv
        · match i with
          | 0 => cases hv; exact ⟨l, (k, none), rfl, rfl, s5 _ _ l4, lfa, lna, lra⟩
          | i + 1 => simp at hv
      rw [efan] at q
      refine ⟨_, rfl, na, _, rfl, .inl (SqL.of d5), _, rfl, by omega, by rw [List.length_map]; omega, for_range (lo := 0) (n := (((near0.map natV).length : Nat) : Int).toNat)
        (fun i σ H6 => ∃ (o8 o9 o10 o11 : Option V) (F : Fan) (near : List Nat) (vs rs : List V), σ = [some (.ref w0), some (.ref a), some (.int k), some (.int p), some (.int hh), some (.ref fa), some (.ref ra), some (.ref na), o8, o9, o10, o11] ∧ FSt H H6 fa ra na es row p F near vs rs ∧
          fanL es row p hh near0.length [(k, none)] near0 = fanL es row p hh (near0.length - i) F near ∧ F.length = i + 1 ∧ near.length ≤ es.length ∧ FanOk es row p F ∧ NearOk es row p F near)
        ⟨none, none, none, none, _, _, _, _, rfl, Z0, rfl, rfl, nnl, O0, N0⟩ ?_ ?_⟩
      · rintro i σ H6 hi ⟨o8, o9, o10, o11, F, near, vs, rs, rfl, Z, ef, hF, hnl, O, N⟩
        have hi' : i < near0.length := by simpa using hi
        have hsub : near0.length - i = (near0.length - (i + 1)) + 1 := by omega
        rw [hsub] at ef
        refine ⟨_, rfl, na, rfl, ⟨_, SqL.of Z.n⟩, for_list (K := K) (a := na) (xs := near.map natV)
          (fun j σ H7 => ∃ (fv : V) (o10 o11 : Option V) (fu : Option (Nat × Nat)), σ = [some (.ref w0), some (.ref a), some (.int k), some (.int p), some (.int hh), some (.ref fa), some (.ref ra), some (.ref na), some (.int (0 + (i : Int))), some fv, o10, o11] ∧ Same H6 H7 ∧ FurV H7 fu fv ∧
            ((fu = none ∧ nextF es row p hh F near = nextF es row p hh F (near.drop j)) ∨ (∃ ob, fu = some ob ∧ nextF es row p hh F near = some ob)))
          ⟨.non, o10, o11, none, rfl, Same.refl _, rfl, .inl ⟨rfl, rfl⟩⟩ (fun j σ H7 _ h => by obtain ⟨_, _, _, _, _, s7, _⟩ := h; exact SqL.of (s7 _ _ Z.n)) ?_ ?_⟩
        · rintro j x σ H7 hx ⟨fv, o10', o11', fu, rfl, s7, hfu, hnx⟩
          obtain ⟨o, ho, rfl⟩ := nat_at hx
          have hj : j < near.length := (List.getElem?_eq_some_iff.mp ho).1
          have Z7 := Z.same s7
          obtain ⟨⟨eo, eo1, eo2⟩, ho2, hro⟩ := N.h o (List.mem_of_getElem? ho)
          have ha7 := Z7.s _ _ R.1
          refine ⟨_, rfl, ra, rfl, .inl ⟨⟨_, SqL.of Z7.r⟩, fun B hB => comp_enumL (K := K) (a := ra) (xs := rs) (fun b ys H8 => Same H7 H8 ∧ H8 B = some (.lst ys) ∧ ys = (backs es row p hh F o b).map natV) ⟨same_new (Same.refl _) hB, upd_same, rfl⟩ (fun b ys H8 _ h => SqL.of (h.1 _ _ Z7.r)) ?_ ?_⟩⟩
          · rintro b v ys H8 pp hv ⟨s8, d8, rfl⟩ hpp
            obtain ⟨qr, fr, rfl, efr, hqr, _⟩ := Z7.pr.2 b v hv
            have hb : b < rs.length := (List.getElem?_eq_some_iff.mp hv).1
            have hbF : b < F.length := by rw [← Z7.pr.1]; exact hb
            have s9 : Same H7 (upd H8 pp (.tup [.int (b : Int), .ref qr])) := same_new s8 hpp
            have d9 := keepN (u := .tup [.int (b : Int), .ref qr]) d8 hpp
            have p9 : (upd H8 pp (.tup [.int (b : Int), .ref qr])) pp = some (.tup [.int (b : Int), .ref qr]) := upd_same
            generalize (upd H8 pp (.tup [.int (b : Int), .ref qr])) = H9 at s9 d9 p9
            have okE : okB es row p hh F o b = (decide (ho2 < hh) && !inV (.int ho2) (hsL es row (farI es fr.1 p) es.length)) := by
              unfold okB
              rw [hueO_iff.mpr hro, efr]
            have no : ¬ okB es row p hh F o b = true → (backs es row p hh F o b).map natV = (backs es row p hh F o (b + 1)).map natV := fun z => by rw [backs, if_neg z, List.append_nil]
            refine ⟨pp, _, rfl, SqT.of p9, rfl, _, _, rfl, _, _, rfl, rfl, ?_⟩
            refine ⟨_, rfl, _, rfl, a, row, _, _, rfl, rfl, SqL.of (s9 _ _ ha7), atI_nat hro, _, rfl, _, _, rfl, rfl, _, rfl, ?_⟩
            by_cases z1 : ho2 < hh
            · refine iteD z1 ?_
              refine ⟨_, rfl, _, rfl, a, row, _, _, rfl, rfl, SqL.of (s9 _ _ ha7), atI_nat hro, _, rfl, qr, _, rfl, .inl (SqL.of (s9 _ _ hqr)), rfl, hsL_flat es row _ _, _, rfl, ?_⟩
              show if (!inV (.int ho2) (hsL es row (farI es fr.1 p) es.length)) = true then _ else _
              refine ite2 (fun z2 => ⟨_, rfl, d9, small1000 (by rw [List.length_map]; have := backs_len es row p hh F o b; omega), same_own s9 hB, upd_same, ?_⟩) (fun z2 => ⟨s9, d9, no (by rw [okE]; simp only [Bool.and_eq_true, not_and]; intro _; exact z2)⟩)
              rw [backs, if_pos (by rw [okE, z2]; simp [z1]), List.map_append]; rfl
            · exact iteND z1 (iteF ⟨s9, d9, no (by rw [okE]; simp [z1])⟩)
          · rintro ys H8 ⟨s8, d8, rfl⟩
            rw [Z7.pr.1] at d8
            have hdrop : near.drop j = o :: near.drop (j + 1) := by
              rw [List.drop_eq_getElem_cons hj]
              congr 1
              have := ho
              rw [List.getElem?_eq_getElem hj] at this
              exact Option.some.inj this
            have hnb : nextF es row p hh F (near.drop j) = match backs es row p hh F o F.length with
                | [] => nextF es row p hh F (near.drop (j + 1))
                | b :: _ => some (o, b) := by
              rw [hdrop]
              cases hb : backs es row p hh F o F.length <;> simp only [nextF, hb]
            cases fu with
            | none =>
              cases hfu
              have hn := hnx.elim (·.2) fun ⟨ob, z, _⟩ => by cases z
              refine ⟨_, rfl, _, rfl, iteD rfl ?_⟩
              refine ⟨_, rfl, by show 0 ≤ sizeLine; decide, fun z hz => ?_⟩
              have d9 := keepN (u := .lst []) d8 hz
              have s9 := same_new (o := .lst []) s8 hz
              refine ⟨B, z, _, [], rfl, rfl, SqL.of d9, SqL.of upd_same, .inr (.inr rfl), _, rfl, ?_⟩
              cases eb : backs es row p hh F o F.length with
              | nil =>
                rw [eb] at hnb
                show if (!eqVs [] []) = true then _ else _
                rw [eqVs_nn]
                exact iteF ⟨.non, _, _, none, rfl, s7.trans s9, rfl, .inl ⟨rfl, by rw [hn, hnb]⟩⟩
              | cons b0 br =>
                rw [eb] at hnb d9
                show if (!eqVs (natV b0 :: br.map natV) []) = true then _ else _
                rw [eqVs_cn]
                refine iteT ⟨_, rfl, _, rfl, B, _, _, _, rfl, rfl, SqL.of d9, at0 b0 br, by show 2 ≤ sizeLine; decide, fun g hg => ?_⟩
                exact ⟨.ref g, _, _, some (o, b0), rfl, s7.trans (same_new s9 hg), ⟨g, rfl, upd_same⟩, .inr ⟨(o, b0), rfl, by rw [hn, hnb]⟩⟩
            | some ob =>
              obtain ⟨qf, rfl, hqf⟩ := hfu
              obtain ⟨ob', z, hn⟩ := hnx.elim (fun h => by cases h.1) id
              cases z
              refine ⟨_, rfl, _, rfl, iteND (fun z => nomatch z) (iteF ?_)⟩
              exact ⟨.ref qf, _, _, some ob, rfl, s7.trans s8, ⟨qf, rfl, s8 _ _ hqf⟩, .inr ⟨ob, rfl, hn⟩⟩
        · rintro σ H7 ⟨fv, o10', o11', fu, rfl, s7, hfu, hnx⟩
          rw [List.length_map, List.drop_length] at hnx
          have Z7 := Z.same s7
          cases fu with
          | none =>
            cases hfu
            have hn := hnx.elim (·.2) fun ⟨ob, z, _⟩ => by cases z
            have hn' : nextF es row p hh F near = none := by rw [hn]; rfl
            refine ⟨_, rfl, _, rfl, iteD rfl ?_⟩
            rw [fanL, hn'] at ef
            refine ⟨_, rfl, q fa H7 Z7.s nfa ?_⟩
            rw [ef]
            exact ⟨vs, Z7.f, Z7.pf⟩
          | some ob =>
            obtain ⟨qf, rfl, hqf⟩ := hfu
            obtain ⟨ob', z, hn⟩ := hnx.elim (fun h => by cases h.1) id
            cases z
            obtain ⟨o, b⟩ := ob
            obtain ⟨hon, hbF, hok⟩ := nextF_some hn
            rw [fanL, hn] at ef
            refine ⟨_, rfl, _, rfl, iteND (fun z => nomatch z) ?_⟩
            obtain ⟨j, hj1, hj2, hj3⟩ := first_ix hon
            have hoe : o < es.length := by
              obtain ⟨⟨e, e1, _⟩, _⟩ := N.h o hon
              exact (List.getElem?_eq_some_iff.mp e1).1
            refine ⟨_, rfl, .inl ⟨rfl, _, SqL.of Z7.n⟩, _, rfl, qf, _, _, _, rfl, rfl, SqT.of hqf, (rfl : atI [natV o, natV b] 0 = some (natV o)), ?_⟩
            refine ⟨na, near.map (fun (n : Nat) => (n : Int)), (o : Int), j, rfl, rfl, by rw [← natV_map]; exact Z7.n, by rw [List.getElem?_map, hj1]; rfl, fun m' hm' z => hj2 m' hm' ?_, ?_⟩
            · rw [List.getElem?_map] at z
              cases e : near[m']? with
              | none => rw [e] at z; cases z
              | some c =>
                rw [e] at z
                have : (c : Int) = (o : Int) := by simpa using z
                have : c = o := by omega
                rw [this]
            rw [eraseIdx_map', ← natV_map, ← hj3]
            have s8 : Same H (upd H7 na (.lst ((near.erase o).map natV))) := same_own Z7.s nna
            have k8 : KeepT H7 (upd H7 na (.lst ((near.erase o).map natV))) := KeepT.lst Z7.n
            have n8 : (upd H7 na (.lst ((near.erase o).map natV))) na = some (.lst ((near.erase o).map natV)) := upd_same
            have f8 : (upd H7 na (.lst ((near.erase o).map natV))) fa = some (.lst vs) := keepO Z7.f fna
            have r8 : (upd H7 na (.lst ((near.erase o).map natV))) ra = some (.lst rs) := keepO Z7.r rna
            have pr8 := Z7.pr.upd (o := .lst ((near.erase o).map natV)) (.inr (.inl rfl))
            have pf8 := Z7.pf.mono k8
            have q8 := k8 _ _ hqf
            generalize (upd H7 na (.lst ((near.erase o).map natV))) = H8 at s8 n8 f8 r8 pr8 pf8 q8
            have hvl : vs.length ≤ es.length := by rw [pf8.1, hF]; omega
            refine ⟨_, rfl, .inl ⟨rfl, _, SqL.of f8⟩, _, rfl, fa, _, _, rfl, rfl, f8, small1000 (by omega), ?_⟩
            have s9 : Same H (upd H8 fa (.lst (vs ++ [.ref qf]))) := same_own s8 nfa
            have k9 : KeepT H8 (upd H8 fa (.lst (vs ++ [.ref qf]))) := KeepT.lst f8
            have f9 : (upd H8 fa (.lst (vs ++ [.ref qf]))) fa = some (.lst (vs ++ [.ref qf])) := upd_same
            have n9 : (upd H8 fa (.lst (vs ++ [.ref qf]))) na = some (.lst ((near.erase o).map natV)) := keepO n8 fna.symm
            have r9 : (upd H8 fa (.lst (vs ++ [.ref qf]))) ra = some (.lst rs) := keepO r8 fra.symm
            have pr9 := pr8.upd (o := .lst (vs ++ [.ref qf])) (.inl rfl)
            have pf9 : PrF (upd H8 fa (.lst (vs ++ [.ref qf]))) (vs ++ [.ref qf]) (F ++ [(o, some b)]) := (pf8.mono k9).add (k9 _ _ q8)
            have q9 := k9 _ _ q8
            generalize (upd H8 fa (.lst (vs ++ [.ref qf]))) = H9 at s9 f9 n9 r9 pr9 pf9 q9
            refine ⟨_, rfl, .inl ⟨rfl, _, SqL.of r9⟩, _, rfl, _, rfl, _, rfl, _, rfl, qf, _, _, _, rfl, rfl, SqT.of q9, (rfl : atI [natV o, natV b] 0 = some (natV o)), _, rfl, ?_⟩
            refine ⟨w0, m, es, o, p, rfl, W.mono (sameKT s9), hoe, w0, a, m, es, row, farI es o p, rfl, W.mono (sameKT s9), R.same s9, fun l2 HA nl2 sA hl2 => ?_⟩
            have d1 : l2 ≠ fa := fun z => by subst z; rw [f9] at nl2; cases nl2
            have d2 : l2 ≠ na := fun z => by subst z; rw [n9] at nl2; cases nl2
            have d3 : l2 ≠ ra := fun z => by subst z; rw [r9] at nl2; cases nl2
            refine ⟨ra, _, _, rfl, rfl, sA _ _ r9, small1000 (by rw [pr9.1, hF]; omega), _, _, _, _, F ++ [(o, some b)], near.erase o, vs ++ [.ref qf], rs ++ [.ref l2], rfl, ?_, ef, by simp [hF], ?_, ?_, ?_⟩
            · refine ⟨same_own (s9.trans sA) nra, keepO (sA _ _ f9) fra, (pf9.mono (sameKT sA)).mono (KeepT.lst (sA _ _ r9)), upd_same, ?_, keepO (sA _ _ n9) rna.symm⟩
              exact ((pr9.same sA).add (f := (o, some b)) hl2 d1 d2 d3).upd (.inr (.inr rfl))
            · have := List.length_erase_le (a := o) (l := near); omega
            · have := fanL_ok (hh := hh) (n := 1) O N
              rw [fanL, hn] at this
              exact this
            · refine ⟨fun x hx => N.h x (List.mem_of_mem_erase hx), fun x hx => ?_, N.n.erase _⟩
              rw [List.map_append, List.mem_append]
              rintro (z | z)
              · exact N.o x (List.mem_of_mem_erase hx) z
              · have : x = o := by simpa using z
                subst this
                exact (List.Nodup.not_mem_erase N.n) hx
      · rintro σ H6 ⟨o8, o9, o10, o11, F, near, vs, rs, rfl, Z, ef, hF, hnl, O, N⟩
        rw [Int.toNat_natCast, List.length_map, Nat.sub_self] at ef
        refine ⟨_, rfl, q fa H6 Z.s nfa ?_⟩
        rw [ef]
        exact ⟨vs, Z.f, Z.pf⟩
end
end Hue
set_option Elab.async false
set_option linter.all false
set_option maxRecDepth 100000
set_option maxHeartbeats 1500000
namespace Hue
open PySem L2
abbrev sSame : Stmt := top 13
theorem nd_oo : ((["_law_one", "_law_other"] : List Str) ++ ([] : List Str)).Nodup := by decide +kernel
theorem kt_sl : ktn "str" "list" = some false := by decide +kernel
theorem kt_st : ktn "str" "tuple" = some false := by decide +kernel
theorem kt_sb : ktn "str" "bool" = some false := by decide +kernel
theorem kt_ss : ktn "str" "str" = some true := by decide +kernel
abbrev Rel2 := Hp → V → V → Prop
def RA : Rel2 := fun _ x y => (x = .non ∧ y = .non) ∨ (∃ n : Int, x = .int n ∧ y = .int n) ∨ ∃ n : Str, x = .str n ∧ y = .str n
def Rls (R : Rel2) : Rel2 := fun H x y => ∃ (a b : Addr) (xs ys : List V), x = .ref a ∧ y = .ref b ∧ H a = some (.lst xs) ∧ H b = some (.lst ys) ∧ xs.length = ys.length ∧ xs.length ≤ 900 ∧ ∀ (i : Nat) u v, xs[i]? = some u → ys[i]? = some v → R H u v
def Rtp (R : Rel2) : Rel2 := fun H x y => ∃ (a b : Addr) (xs ys : List V), x = .ref a ∧ y = .ref b ∧ H a = some (.tup xs) ∧ H b = some (.tup ys) ∧ xs.length = ys.length ∧ xs.length ≤ 900 ∧ ∀ (i : Nat) u v, xs[i]? = some u → ys[i]? = some v → R H u v
def Kept (R : Rel2) : Prop := ∀ H H' x y, Same H H' → R H x y → R H' x y
theorem kept_RA : Kept RA := fun _ _ _ _ _ h => h
theorem kept_Rls {R : Rel2} (h : Kept R) : Kept (Rls R) := fun H H' x y s ⟨a, b, xs, ys, e1, e2, h1, h2, l1, l2, q⟩ => ⟨a, b, xs, ys, e1, e2, s _ _ h1, s _ _ h2, l1, l2, fun i u v hu hv => h _ _ _ _ s (q i u v hu hv)⟩
theorem kept_Rtp {R : Rel2} (h : Kept R) : Kept (Rtp R) := fun H H' x y s ⟨a, b, xs, ys, e1, e2, h1, h2, l1, l2, q⟩ => ⟨a, b, xs, ys, e1, e2, s _ _ h1, s _ _ h2, l1, l2, fun i u v hu hv => h _ _ _ _ s (q i u v hu hv)⟩
def Al : Nat → Rel2
  | 0 => RA
  | n + 1 => fun H x y => RA H x y ∨ Rls (Al n) H x y ∨ Rtp (Al n) H x y
theorem kept_Al : ∀ n, Kept (Al n)
  | 0 => kept_RA
  | n + 1 => fun H H' x y s h => h.imp id fun h => h.imp (kept_Rls (kept_Al n) H H' x y s) (kept_Rtp (kept_Al n) H H' x y s)
def spSameR (R : Rel2) : Sp := fun vs H Q _ => ∃ x y, vs = [x, y] ∧ R H x y ∧ ∀ H', Same H H' → Q (.bl true) H'
theorem any_tup {K : PySem.W.Frag} : PySem.W.kitAny K (.type "tuple") (["list", "tuple"].map Value.type) = some true := by
  show (match PySem.W.kitOne K (.type "tuple") (.type "list") with | some true => some true | some false => (match PySem.W.kitOne K (.type "tuple") (.type "tuple") with | some true => some true | some false => some false | none => none) | none => none) = some true
  rw [kit_n, kt_tl]
  show (match PySem.W.kitOne K (.type "tuple") (.type "tuple") with | some true => some true | some false => some false | none => none) = some true
  rw [kit_n, kt_tt]
section
variable {P : Program} {w : World} {K : PySem.W.Frag} {mg : Str → Option Value} {base : Heap}
theorem scSame : FnScope ["_law_found", "_law_due_here"] ["_law_found", "_law_due_here"] (defScope sSame) := ⟨rfl, rfl, rfl, by decide +kernel, rfl, by decide +kernel, by decide +kernel⟩
theorem ok_sameI {f : Addr} {fd : FuncData} (F : Fun K "_law_same" "_law_same" sSame f fd) (T : Txt K mg) : FnOk P w K mg base CX0 1 f fd ["_law_found", "_law_due_here"] (spSameR RA) := by
  refine F.ok scSame (fun vs H Q E h => ?_) (fun cdv A outer s H vs Q E hr h => ?_)
  · obtain ⟨x, y, rfl, _⟩ := h; rfl
  · obtain ⟨x, y, rfl, ⟨rfl, rfl⟩ | ⟨n, rfl, rfl⟩ | ⟨n, rfl, rfl⟩, q⟩ := h
    · refine ⟨_, pss_cons (ps_if (pt_cmp (pc_isN (pv 1))) (pss_one (ps_ret (pe_cmp (pc_isN (pv 0))))) pss_nil) pss_no, ?_⟩
      exact ⟨_, rfl, _, rfl, iteD rfl ⟨_, rfl, bl_t rfl (q _ (Same.refl _))⟩⟩
    · refine ⟨_, pss_cons (ps_if (pt_cmp (pc_isN (pv 1))) pss_no pss_nil)
        (pss_cons (ps_if (pt_val (pe_callB call_isiT (by rfl) T.isi b_isi (pa_cons (pv 1) (pa_cons (pe_tup (pa_cons (pe_bltn (v := .ty "list") (by rfl) T.list b_list rfl) (pa_cons (pe_bltn (v := .ty "tuple") (by rfl) T.tuple b_tuple rfl) pa_nil))) pa_nil)))) pss_no pss_nil)
        (pss_cons (ps_if (pw_or (pt_val (pe_callB call_isi1 (by rfl) T.isi b_isi (pa_cons (pv 1) (pa_cons (pe_bltn (v := .ty "bool") (by rfl) T.bool b_bool rfl) pa_nil)))) (pw_or1 (pt_val (pe_callB call_isi1 (by rfl) T.isi b_isi (pa_cons (pv 1) (pa_cons (pe_bltn (v := .ty "str") (by rfl) T.str b_str rfl) pa_nil)))))).pt pss_no pss_nil)
        (pss_one (ps_ret (pe_and (pe_callB call_isi1 (by rfl) T.isi b_isi (pa_cons (pv 0) (pa_cons (pe_bltn (v := .ty "int") (by rfl) T.int b_int rfl) pa_nil)))
          (pe_and (pe_not (pe_callB call_isi1 (by rfl) T.isi b_isi (pa_cons (pv 0) (pa_cons (pe_bltn (v := .ty "bool") (by rfl) T.bool b_bool rfl) pa_nil)))) (pe_one (pe_cmpR op_eq (pv 0) (pv 1) (nomark _))))))))), ?_⟩
      refine ⟨_, rfl, _, rfl, iteND (fun z => nomatch z) ?_⟩
      refine ⟨_, rfl, by show 2 ≤ sizeLine; decide, fun p hp => ⟨_, p, ["list", "tuple"], _, false, rfl, upd_same, .int n, any_two_f kt_il kt_it, _, rfl, iteF ?_⟩⟩
      refine ⟨_, rfl, _, "bool", _, _, rfl, .int n, (kit_n _ _).trans kt_ib, _, rfl, iteF ?_⟩
      refine ⟨_, rfl, _, "str", _, _, rfl, .int n, (kit_n _ _).trans kt_is, _, rfl, iteF ?_⟩
      refine ⟨_, rfl, _, "int", _, _, rfl, .int n, (kit_n _ _).trans kt_ii, _, rfl, iteT ?_⟩
      refine ⟨_, rfl, _, "bool", _, _, rfl, .int n, (kit_n _ _).trans kt_ib, _, rfl, _, rfl, iteT ?_⟩
      exact ⟨_, rfl, _, rfl, rfl, bl_t rfl (q _ (same_new (Same.refl _) hp))⟩
    · refine ⟨_, pss_cons (ps_if (pt_cmp (pc_isN (pv 1))) pss_no pss_nil)
        (pss_cons (ps_if (pt_val (pe_callB call_isiT (by rfl) T.isi b_isi (pa_cons (pv 1) (pa_cons (pe_tup (pa_cons (pe_bltn (v := .ty "list") (by rfl) T.list b_list rfl) (pa_cons (pe_bltn (v := .ty "tuple") (by rfl) T.tuple b_tuple rfl) pa_nil))) pa_nil)))) pss_no pss_nil)
        (pss_cons (ps_if (pw_or (pt_val (pe_callB call_isi1 (by rfl) T.isi b_isi (pa_cons (pv 1) (pa_cons (pe_bltn (v := .ty "bool") (by rfl) T.bool b_bool rfl) pa_nil)))) (pw_or1 (pt_val (pe_callB call_isi1 (by rfl) T.isi b_isi (pa_cons (pv 1) (pa_cons (pe_bltn (v := .ty "str") (by rfl) T.str b_str rfl) pa_nil)))))).pt (pss_one (ps_ret (pe_and (pe_cmpR op_eq (pe_callB call_isi1 (by rfl) T.isi b_isi (pa_cons (pv 0) (pa_cons (pe_bltn (v := .ty "bool") (by rfl) T.bool b_bool rfl) pa_nil))) (pe_callB call_isi1 (by rfl) T.isi b_isi (pa_cons (pv 1) (pa_cons (pe_bltn (v := .ty "bool") (by rfl) T.bool b_bool rfl) pa_nil))) (nomark _)) (pe_one (pe_cmpR op_eq (pv 0) (pv 1) (nomark _)))))) pss_nil) pss_no)), ?_⟩
      refine ⟨_, rfl, _, rfl, iteND (fun z => nomatch z) ?_⟩
      refine ⟨_, rfl, by show 2 ≤ sizeLine; decide, fun p hp => ⟨_, p, ["list", "tuple"], _, false, rfl, upd_same, .str n, any_two_f kt_sl kt_st, _, rfl, iteF ?_⟩⟩
      refine ⟨_, rfl, _, "bool", _, _, rfl, .str n, (kit_n _ _).trans kt_sb, _, rfl, iteF ?_⟩
      refine ⟨_, rfl, _, "str", _, _, rfl, .str n, (kit_n _ _).trans kt_ss, _, rfl, iteT ?_⟩
      refine ⟨_, rfl, _, "bool", _, _, rfl, .str n, (kit_n _ _).trans kt_sb, _, rfl, _, "bool", _, _, rfl, .str n, (kit_n _ _).trans kt_sb, rfl, _, rfl, iteD rfl ?_⟩
      exact ⟨_, rfl, _, rfl, rfl, bl_t rfl (q _ (same_new (Same.refl _) hp))⟩
theorem ok_sameM {d : Nat} {R : Rel2} (hR : Kept R) {f : Addr} {fd : FuncData} (F : Fun K "_law_same" "_law_same" sSame f fd) (T : Txt K mg) (CS : Callee P w K mg base (d + 1) "_law_same" ["_law_found", "_law_due_here"] (spSameR R)) : FnOk P w K mg base CX0 (d + 2) f fd ["_law_found", "_law_due_here"] (spSameR fun H x y => RA H x y ∨ Rls R H x y ∨ Rtp R H x y) := by
  refine F.ok scSame (fun vs H Q E h => ?_) (fun cdv A outer s H vs Q E hr h => ?_)
  · obtain ⟨x, y, rfl, _⟩ := h; rfl
  · obtain ⟨x, y, rfl, (⟨rfl, rfl⟩ | ⟨n, rfl, rfl⟩ | ⟨n, rfl, rfl⟩) | ⟨a, b, xs, ys, rfl, rfl, ha, hb, hl, h9, hi⟩ | ⟨a, b, xs, ys, rfl, rfl, ha, hb, hl, h9, hi⟩, q⟩ := h
    · refine ⟨_, pss_cons (ps_if (pt_cmp (pc_isN (pv 1))) (pss_one (ps_ret (pe_cmp (pc_isN (pv 0))))) pss_nil) pss_no, ?_⟩
      exact ⟨_, rfl, _, rfl, iteD rfl ⟨_, rfl, bl_t rfl (q _ (Same.refl _))⟩⟩
    · refine ⟨_, pss_cons (ps_if (pt_cmp (pc_isN (pv 1))) pss_no pss_nil)
        (pss_cons (ps_if (pt_val (pe_callB call_isiT (by rfl) T.isi b_isi (pa_cons (pv 1) (pa_cons (pe_tup (pa_cons (pe_bltn (v := .ty "list") (by rfl) T.list b_list rfl) (pa_cons (pe_bltn (v := .ty "tuple") (by rfl) T.tuple b_tuple rfl) pa_nil))) pa_nil)))) pss_no pss_nil)
        (pss_cons (ps_if (pw_or (pt_val (pe_callB call_isi1 (by rfl) T.isi b_isi (pa_cons (pv 1) (pa_cons (pe_bltn (v := .ty "bool") (by rfl) T.bool b_bool rfl) pa_nil)))) (pw_or1 (pt_val (pe_callB call_isi1 (by rfl) T.isi b_isi (pa_cons (pv 1) (pa_cons (pe_bltn (v := .ty "str") (by rfl) T.str b_str rfl) pa_nil)))))).pt pss_no pss_nil)
        (pss_one (ps_ret (pe_and (pe_callB call_isi1 (by rfl) T.isi b_isi (pa_cons (pv 0) (pa_cons (pe_bltn (v := .ty "int") (by rfl) T.int b_int rfl) pa_nil)))
          (pe_and (pe_not (pe_callB call_isi1 (by rfl) T.isi b_isi (pa_cons (pv 0) (pa_cons (pe_bltn (v := .ty "bool") (by rfl) T.bool b_bool rfl) pa_nil)))) (pe_one (pe_cmpR op_eq (pv 0) (pv 1) (nomark _))))))))), ?_⟩
      refine ⟨_, rfl, _, rfl, iteND (fun z => nomatch z) ?_⟩
      refine ⟨_, rfl, by show 2 ≤ sizeLine; decide, fun p hp => ⟨_, p, ["list", "tuple"], _, false, rfl, upd_same, .int n, any_two_f kt_il kt_it, _, rfl, iteF ?_⟩⟩
      refine ⟨_, rfl, _, "bool", _, _, rfl, .int n, (kit_n _ _).trans kt_ib, _, rfl, iteF ?_⟩
      refine ⟨_, rfl, _, "str", _, _, rfl, .int n, (kit_n _ _).trans kt_is, _, rfl, iteF ?_⟩
      refine ⟨_, rfl, _, "int", _, _, rfl, .int n, (kit_n _ _).trans kt_ii, _, rfl, iteT ?_⟩
      refine ⟨_, rfl, _, "bool", _, _, rfl, .int n, (kit_n _ _).trans kt_ib, _, rfl, _, rfl, iteT ?_⟩
      exact ⟨_, rfl, _, rfl, rfl, bl_t rfl (q _ (same_new (Same.refl _) hp))⟩
    · refine ⟨_, pss_cons (ps_if (pt_cmp (pc_isN (pv 1))) pss_no pss_nil)
        (pss_cons (ps_if (pt_val (pe_callB call_isiT (by rfl) T.isi b_isi (pa_cons (pv 1) (pa_cons (pe_tup (pa_cons (pe_bltn (v := .ty "list") (by rfl) T.list b_list rfl) (pa_cons (pe_bltn (v := .ty "tuple") (by rfl) T.tuple b_tuple rfl) pa_nil))) pa_nil)))) pss_no pss_nil)
        (pss_cons (ps_if (pw_or (pt_val (pe_callB call_isi1 (by rfl) T.isi b_isi (pa_cons (pv 1) (pa_cons (pe_bltn (v := .ty "bool") (by rfl) T.bool b_bool rfl) pa_nil)))) (pw_or1 (pt_val (pe_callB call_isi1 (by rfl) T.isi b_isi (pa_cons (pv 1) (pa_cons (pe_bltn (v := .ty "str") (by rfl) T.str b_str rfl) pa_nil)))))).pt (pss_one (ps_ret (pe_and (pe_cmpR op_eq (pe_callB call_isi1 (by rfl) T.isi b_isi (pa_cons (pv 0) (pa_cons (pe_bltn (v := .ty "bool") (by rfl) T.bool b_bool rfl) pa_nil))) (pe_callB call_isi1 (by rfl) T.isi b_isi (pa_cons (pv 1) (pa_cons (pe_bltn (v := .ty "bool") (by rfl) T.bool b_bool rfl) pa_nil))) (nomark _)) (pe_one (pe_cmpR op_eq (pv 0) (pv 1) (nomark _)))))) pss_nil) pss_no)), ?_⟩
      refine ⟨_, rfl, _, rfl, iteND (fun z => nomatch z) ?_⟩
      refine ⟨_, rfl, by show 2 ≤ sizeLine; decide, fun p hp => ⟨_, p, ["list", "tuple"], _, false, rfl, upd_same, .str n, any_two_f kt_sl kt_st, _, rfl, iteF ?_⟩⟩
      refine ⟨_, rfl, _, "bool", _, _, rfl, .str n, (kit_n _ _).trans kt_sb, _, rfl, iteF ?_⟩
      refine ⟨_, rfl, _, "str", _, _, rfl, .str n, (kit_n _ _).trans kt_ss, _, rfl, iteT ?_⟩
      refine ⟨_, rfl, _, "bool", _, _, rfl, .str n, (kit_n _ _).trans kt_sb, _, rfl, _, "bool", _, _, rfl, .str n, (kit_n _ _).trans kt_sb, rfl, _, rfl, iteD rfl ?_⟩
      exact ⟨_, rfl, _, rfl, rfl, bl_t rfl (q _ (same_new (Same.refl _) hp))⟩
    · refine ⟨_, pss_cons (ps_if (pt_cmp (pc_isN (pv 1))) pss_no pss_nil)
        (pss_cons (ps_if (pt_val (pe_callB call_isiT (by rfl) T.isi b_isi (pa_cons (pv 1) (pa_cons (pe_tup (pa_cons (pe_bltn (v := .ty "list") (by rfl) T.list b_list rfl) (pa_cons (pe_bltn (v := .ty "tuple") (by rfl) T.tuple b_tuple rfl) pa_nil))) pa_nil))))
          (pss_cons (ps_if (pw_or (pt_cmpR op_ne (pe_callB call_isi1 (by rfl) T.isi b_isi (pa_cons (pv 0) (pa_cons (pe_bltn (v := .ty "list") (by rfl) T.list b_list rfl) pa_nil))) (pe_callB call_isi1 (by rfl) T.isi b_isi (pa_cons (pv 1) (pa_cons (pe_bltn (v := .ty "list") (by rfl) T.list b_list rfl) pa_nil))) (nomark _))
              (pw_or1 (pt_cmpR op_ne (pe_callB call_isi1 (by rfl) T.isi b_isi (pa_cons (pv 0) (pa_cons (pe_bltn (v := .ty "tuple") (by rfl) T.tuple b_tuple rfl) pa_nil))) (pe_callB call_isi1 (by rfl) T.isi b_isi (pa_cons (pv 1) (pa_cons (pe_bltn (v := .ty "tuple") (by rfl) T.tuple b_tuple rfl) pa_nil))) (nomark _)))).pt pss_no pss_nil)
          (pss_one (ps_ret (pe_and (pe_cmpR op_eq (pe_callB call_len_seq (by rfl) T.len b_len (pa_cons (pv 0) pa_nil)) (pe_callB call_len_seq (by rfl) T.len b_len (pa_cons (pv 1) pa_nil)) (nomark _))
            (pe_one (pe_callB (call_allB rfl) (by rfl) T.all b_all (pa_cons (pe_comp ["_law_one", "_law_other"] [] [] (pi_zip (by rfl) T.zip (pa_cons (pv 0) (pa_cons (pv 1) pa_nil)))
              (fun _ _ _ _ _ => pg_tupK (K := K) (n := 2) rfl rfl (pgs_cons (pg_name (i := 0) nd_oo rfl (Or.inl rfl)) (pgs_cons (pg_name (i := 1) nd_oo rfl (Or.inl rfl)) pgs_nil)))
              (fun _ _ _ _ _ => pifs_nil) (fun _ _ _ _ _ => pe_def CS hr (by rfl) (pa_cons (pv 0) (pa_cons (pv 1) pa_nil)))) pa_nil))))))) pss_nil)
        pss_no), ?_⟩
      refine ⟨_, rfl, _, rfl, iteND (fun z => nomatch z) ?_⟩
      refine ⟨_, rfl, by show 2 ≤ sizeLine; decide, fun p hp => ⟨_, p, ["list", "tuple"], _, true, rfl, upd_same, .lst (keepN hb hp), any_lst, _, rfl, iteT ?_⟩⟩
      refine ⟨_, rfl, _, "list", _, _, rfl, .lst (keepN ha hp), (kit_n _ _).trans kt_ll, _, rfl, _, "list", _, _, rfl, .lst (keepN hb hp), (kit_n _ _).trans kt_ll, rfl, _, rfl, iteNS rfl ?_⟩
      refine ⟨_, rfl, _, "tuple", _, _, rfl, .lst (keepN ha hp), (kit_n _ _).trans kt_lt, _, rfl, _, "tuple", _, _, rfl, .lst (keepN hb hp), (kit_n _ _).trans kt_lt, rfl, _, rfl, iteNS rfl ?_⟩
      refine ⟨_, rfl, a, xs, rfl, .inl (SqL.of (keepN ha hp)), _, rfl, b, ys, rfl, .inl (SqL.of (keepN hb hp)), rfl, _, rfl, iteD (by rw [hl]) ?_⟩
      refine ⟨_, rfl, _, rfl, a, b, rfl, ⟨_, SqL.of (keepN ha hp)⟩, ⟨_, SqL.of (keepN hb hp)⟩, fun D hD => ?_⟩
      have s0 : Same H (upd H p (.tup [.ty "list", .ty "tuple"])) := same_new (Same.refl _) hp
      have nD : H D = none := s0.free hD
      refine comp_zip (K := K) (a := a) (b := b) (xs := xs) (zs := ys) hl (fun i zs H2 => Same H H2 ∧ H2 D = some (.lst zs) ∧ zs = (List.replicate i true).map V.bl)
        ⟨same_new s0 hD, upd_same, rfl⟩ (fun i zs H2 _ h => ⟨SqL.of (h.1 _ _ ha), SqL.of (h.1 _ _ hb)⟩) ?_ ?_
      · rintro i x z zs H2 pp hx hz ⟨s2, d2, rfl⟩ hpp
        have hil : i < xs.length := (List.getElem?_eq_some_iff.mp hx).1
        have s3 : Same H (upd H2 pp (.tup [x, z])) := same_new s2 hpp
        refine ⟨pp, _, rfl, SqT.of upd_same, rfl, _, _, rfl, _, _, rfl, rfl, ?_⟩
        refine iteT ⟨_, rfl, _, rfl, x, z, rfl, hR _ _ _ _ s3 (hi i x z hx hz), fun H4 s4 => ⟨s4 _ _ (keepN d2 hpp), small1000 (by simp; omega), ?_⟩⟩
        refine ⟨same_own (s3.trans s4) nD, upd_same, ?_⟩
        rw [List.replicate_succ', List.map_append]; rfl
      · rintro zs H2 ⟨s2, d2, rfl⟩
        refine ⟨D, List.replicate xs.length true, rfl, SqL.of d2, ?_⟩
        rw [show (List.replicate xs.length true).all id = true by simp]
        exact q _ s2
    · refine ⟨_, pss_cons (ps_if (pt_cmp (pc_isN (pv 1))) pss_no pss_nil)
        (pss_cons (ps_if (pt_val (pe_callB call_isiT (by rfl) T.isi b_isi (pa_cons (pv 1) (pa_cons (pe_tup (pa_cons (pe_bltn (v := .ty "list") (by rfl) T.list b_list rfl) (pa_cons (pe_bltn (v := .ty "tuple") (by rfl) T.tuple b_tuple rfl) pa_nil))) pa_nil))))
          (pss_cons (ps_if (pw_or (pt_cmpR op_ne (pe_callB call_isi1 (by rfl) T.isi b_isi (pa_cons (pv 0) (pa_cons (pe_bltn (v := .ty "list") (by rfl) T.list b_list rfl) pa_nil))) (pe_callB call_isi1 (by rfl) T.isi b_isi (pa_cons (pv 1) (pa_cons (pe_bltn (v := .ty "list") (by rfl) T.list b_list rfl) pa_nil))) (nomark _))
              (pw_or1 (pt_cmpR op_ne (pe_callB call_isi1 (by rfl) T.isi b_isi (pa_cons (pv 0) (pa_cons (pe_bltn (v := .ty "tuple") (by rfl) T.tuple b_tuple rfl) pa_nil))) (pe_callB call_isi1 (by rfl) T.isi b_isi (pa_cons (pv 1) (pa_cons (pe_bltn (v := .ty "tuple") (by rfl) T.tuple b_tuple rfl) pa_nil))) (nomark _)))).pt pss_no pss_nil)
          (pss_one (ps_ret (pe_and (pe_cmpR op_eq (pe_callB call_len_seq (by rfl) T.len b_len (pa_cons (pv 0) pa_nil)) (pe_callB call_len_seq (by rfl) T.len b_len (pa_cons (pv 1) pa_nil)) (nomark _))
            (pe_one (pe_callB (call_allB rfl) (by rfl) T.all b_all (pa_cons (pe_comp ["_law_one", "_law_other"] [] [] (pi_zipT (by rfl) T.zip (pa_cons (pv 0) (pa_cons (pv 1) pa_nil)))
              (fun _ _ _ _ _ => pg_tupK (K := K) (n := 2) rfl rfl (pgs_cons (pg_name (i := 0) nd_oo rfl (Or.inl rfl)) (pgs_cons (pg_name (i := 1) nd_oo rfl (Or.inl rfl)) pgs_nil)))
              (fun _ _ _ _ _ => pifs_nil) (fun _ _ _ _ _ => pe_def CS hr (by rfl) (pa_cons (pv 0) (pa_cons (pv 1) pa_nil)))) pa_nil))))))) pss_nil)
        pss_no), ?_⟩
      refine ⟨_, rfl, _, rfl, iteND (fun z => nomatch z) ?_⟩
      refine ⟨_, rfl, by show 2 ≤ sizeLine; decide, fun p hp => ⟨_, p, ["list", "tuple"], _, true, rfl, upd_same, .tup (keepN hb hp), any_tup, _, rfl, iteT ?_⟩⟩
      refine ⟨_, rfl, _, "list", _, _, rfl, .tup (keepN ha hp), (kit_n _ _).trans kt_tl, _, rfl, _, "list", _, _, rfl, .tup (keepN hb hp), (kit_n _ _).trans kt_tl, rfl, _, rfl, iteNS rfl ?_⟩
      refine ⟨_, rfl, _, "tuple", _, _, rfl, .tup (keepN ha hp), (kit_n _ _).trans kt_tt, _, rfl, _, "tuple", _, _, rfl, .tup (keepN hb hp), (kit_n _ _).trans kt_tt, rfl, _, rfl, iteNS rfl ?_⟩
      refine ⟨_, rfl, a, xs, rfl, .inr (SqT.of (keepN ha hp)), _, rfl, b, ys, rfl, .inr (SqT.of (keepN hb hp)), rfl, _, rfl, iteD (by rw [hl]) ?_⟩
      refine ⟨_, rfl, _, rfl, a, b, rfl, ⟨_, SqT.of (keepN ha hp)⟩, ⟨_, SqT.of (keepN hb hp)⟩, fun D hD => ?_⟩
      have s0 : Same H (upd H p (.tup [.ty "list", .ty "tuple"])) := same_new (Same.refl _) hp
      have nD : H D = none := s0.free hD
      refine comp_zipT (K := K) (a := a) (b := b) (xs := xs) (zs := ys) hl (fun i zs H2 => Same H H2 ∧ H2 D = some (.lst zs) ∧ zs = (List.replicate i true).map V.bl)
        ⟨same_new s0 hD, upd_same, rfl⟩ (fun i zs H2 _ h => ⟨SqT.of (h.1 _ _ ha), SqT.of (h.1 _ _ hb)⟩) ?_ ?_
      · rintro i x z zs H2 pp hx hz ⟨s2, d2, rfl⟩ hpp
        have hil : i < xs.length := (List.getElem?_eq_some_iff.mp hx).1
        have s3 : Same H (upd H2 pp (.tup [x, z])) := same_new s2 hpp
        refine ⟨pp, _, rfl, SqT.of upd_same, rfl, _, _, rfl, _, _, rfl, rfl, ?_⟩
        refine iteT ⟨_, rfl, _, rfl, x, z, rfl, hR _ _ _ _ s3 (hi i x z hx hz), fun H4 s4 => ⟨s4 _ _ (keepN d2 hpp), small1000 (by simp; omega), ?_⟩⟩
        refine ⟨same_own (s3.trans s4) nD, upd_same, ?_⟩
        rw [List.replicate_succ', List.map_append]; rfl
      · rintro zs H2 ⟨s2, d2, rfl⟩
        refine ⟨D, List.replicate xs.length true, rfl, SqL.of d2, ?_⟩
        rw [show (List.replicate xs.length true).all id = true by simp]
        exact q _ s2
theorem ok_sameA : ∀ (n : Nat) {f : Addr} {fd : FuncData} (F : Fun K "_law_same" "_law_same" sSame f fd) (T : Txt K mg) (hm : mg "_law_same" = some (.ref f)) (hk : PySem.W.keepIn K (.ref f) = true) (hb : Binds K fd ["_law_found", "_law_due_here"] []), FnOk P w K mg base CX0 (n + 1) f fd ["_law_found", "_law_due_here"] (spSameR (Al n))
  | 0, _, _, F, T, _, _, _ => ok_sameI F T
  | n + 1, _, _, F, T, hm, hk, hb => ok_sameM (kept_Al n) F T ⟨_, _, ok_sameA n F T hm hk hb, hm, hk, hb⟩
end
end Hue
set_option Elab.async false
set_option linter.all false
set_option maxRecDepth 100000
set_option maxHeartbeats 2000000
namespace Hue
open PySem L2
theorem steps_al {H : Hp} {a b : Addr} {way : List Nat} {hue : Int} (A : StepsAt H a way hue) (B : StepsAt H b way hue) (h9 : way.length ≤ 900) : Al 2 H (.ref a) (.ref b) := by
  obtain ⟨vs, h1, h2, h3⟩ := A
  obtain ⟨us, g1, g2, g3⟩ := B
  refine .inr (.inl ⟨a, b, _, _, rfl, rfl, h1, g1, by omega, by omega, fun i u v hu hv => ?_⟩)
  obtain ⟨q, rfl, hq⟩ := h3 i u hu
  obtain ⟨q', rfl, hq'⟩ := g3 i v hv
  have len : (stepV way hue i).length = 3 := by unfold stepV; split <;> rfl
  refine .inr (.inr ⟨q, q', _, _, rfl, rfl, hq, hq', rfl, by omega, fun j u v hu hv => ?_⟩)
  rw [hu] at hv
  cases hv
  have hm := List.mem_of_getElem? hu
  unfold stepV at hm
  split at hm
  all_goals
    simp only [List.mem_cons, List.not_mem_nil, or_false] at hm
    rcases hm with rfl | rfl | rfl
    · exact .inr (.inr ⟨_, rfl, rfl⟩)
    · exact .inr (.inl ⟨_, rfl, rfl⟩)
    · exact .inr (.inl ⟨_, rfl, rfl⟩)
def spLets : Sp := fun vs H Q _ => ∃ (w a S : Addr) (m : Int) (es : List (Int × Int)) (row : List V) (p c : Int) (way : List Nat) (x : Nat), vs = [.ref w, .ref a, .ref S] ∧ WebE H w m es ∧ LRow H a es row ∧ Prop2 es row ∧ Ch es row p way ∧ StepsAt H S way c ∧ 0 < way.length ∧ way.length ≤ 200 ∧ way[way.length - 1]? = some x ∧ 0 ≤ c ∧
  (∀ k, atH es row p c k = false) ∧ (∀ k, atH es row (farI es x p) c k = false) ∧ ∀ H', Same H H' → Q (.bl true) H'
theorem nd_th : ((["_law_tie", "_law_hue"] : List Str) ++ ([] : List Str)).Nodup := by decide +kernel
theorem nd_tb : ((["_law_tie"] : List Str) ++ (["_law_bare"] : List Str)).Nodup := by decide +kernel
theorem nats_flat (ls : List Nat) : (ls.map natV).all flatV = true := by
  rw [List.all_map, List.all_eq_true]
  intro _ _
  rfl
theorem inV_nats {k : Nat} {ls : List Nat} (h : k ∈ ls) : inV (natV k) (ls.map natV) = true := by
  unfold inV
  exact List.any_eq_true.mpr ⟨natV k, List.mem_map.mpr ⟨k, h, rfl⟩, by simp [eqV, natV]⟩
section
variable {P : Program} {w : World} {K : PySem.W.Frag} {mg : Str → Option Value} {base : Heap}
theorem scLets : FnScope ["_law_web_here", "_law_hueing_here", "_law_steps", "_law_here", "_law_step", "_law_bare", "_law_still"] ["_law_web_here", "_law_hueing_here", "_law_steps"] (defScope sLets) := ⟨rfl, rfl, rfl, by decide +kernel, rfl, by decide +kernel, by decide +kernel⟩
theorem ok_lets {f : Addr} {fd : FuncData} (F : Fun K "_law_lets" "_law_lets" sLets f fd) (T : Txt K mg) (CS : Callee P w K mg base 3 "_law_stepped" ["_law_web_here", "_law_hueing_here", "_law_step"] spStepped) : FnOk P w K mg base CX0 4 f fd ["_law_web_here", "_law_hueing_here", "_law_steps"] spLets := by
  refine F.ok scLets (fun vs H Q E h => ?_) (fun cdv A outer s H vs Q E hr h => ?_)
  · obtain ⟨_, _, _, _, _, _, _, _, _, _, rfl, _⟩ := h; rfl
  · obtain ⟨w0, a, S, m, es, row, p, c, way, x, rfl, W, R, P2, C, ⟨vs, hS, hst⟩, h0, h200, hx, hc, cp, cf, q⟩ := h
    refine ⟨_, pss_cons (ps_set (i := 3) scLets.nd rfl (Or.inl rfl) (pv 1))
      (pss_cons (ps_for PassesOwn.never rfl (pi_list (pv 2)) (pg_name (i := 4) scLets.nd rfl (Or.inl rfl))
        (pss_cons (ps_set (i := 3) scLets.nd rfl (Or.inl rfl) (pe_def CS hr (by rfl) (pa_cons (pv 0) (pa_cons (pv 3) (pa_cons (pv 4) pa_nil)))))
        (pss_one (ps_if (pt_cmp (pc_isN (pv 3))) pss_no pss_nil))))
      (pss_cons (ps_set (i := 5) scLets.nd rfl (Or.inr rfl) (pe_comp ["_law_tie", "_law_hue"] [] [] (pi_enum (by rfl) T.enum (pa_cons (pv 1) pa_nil)) (fun _ _ _ _ _ => pg_tupK (K := K) (n := 2) rfl rfl (pgs_cons (pg_name (i := 0) nd_th rfl (Or.inl rfl)) (pgs_cons (pg_name (i := 1) nd_th rfl (Or.inl rfl)) pgs_nil))) (fun _ _ _ _ _ => pifs_one (pt_cmp (pc_isN (pv 1)))) (fun _ _ _ _ _ => pv 0)))
      (pss_cons (ps_setComp (i := 6) ["_law_tie", "_law_hue"] [] [] scLets.nd rfl rfl (pi_enum (by rfl) T.enum (pa_cons (pv 3) pa_nil)) (fun _ _ _ _ _ => pg_tupK (K := K) (n := 2) rfl rfl (pgs_cons (pg_name (i := 0) nd_th rfl (Or.inl rfl)) (pgs_cons (pg_name (i := 1) nd_th rfl (Or.inl rfl)) pgs_nil))) (fun _ _ _ _ _ => pifs_one (pt_cmp (pc_isN (pv 1)))) (fun _ _ _ _ _ => pv 0))
      (pss_one (ps_ret (pe_and (pe_cmpR op_eq (pe_callB call_len_seq (by rfl) T.len b_len (pa_cons (pv 6) pa_nil)) (pe_op op_sub (pe_callB call_len_seq (by rfl) T.len b_len (pa_cons (pv 5) pa_nil)) pe_int) (nomark _))
        (pe_one (pe_callB (call_allB rfl) (by rfl) T.all b_all (pa_cons (pe_comp ["_law_tie"] ["_law_bare"] [5] (pi_list (pv 6)) (fun _ _ _ _ _ => pg_name (i := 0) nd_tb rfl (Or.inl rfl)) (fun _ _ _ _ _ => pifs_nil) (fun _ _ _ _ _ => pe_cmpR (op_inK (K := K) rfl) (pv 0) (pv 1) (by with_unfolding_all rfl))) pa_nil))))))))), ?_⟩
    have hl := R.2.1
    have ixN : ∀ i, i < way.length → way[i]? = some (way.getD i 0) := fun i hi => by rw [List.getD_eq_getElem?_getD, List.getElem?_eq_getElem hi]; rfl
    refine ⟨_, rfl, _, rfl, S, rfl, ⟨_, SqL.of hS⟩, for_list (K := K) (a := S) (xs := vs) (fun i σ H2 => ∃ (b : Addr) (o4 : Option V) (r : List V), σ = [some (.ref w0), some (.ref a), some (.ref S), some (.ref b), o4, none, none] ∧ Same H H2 ∧ LRow H2 b es r ∧
        (i < way.length → RowJ row way i r) ∧ (i = way.length → ∃ r', RowJ row way (way.length - 1) r' ∧ r = r'.set x (.int c)))
      ⟨a, none, row, rfl, Same.refl _, R, fun _ => RowJ.zero C, fun z => by omega⟩ (fun i σ H2 _ h => by obtain ⟨_, _, _, _, h, _⟩ := h; exact SqL.of (h _ _ hS)) ?_ ?_⟩
    · rintro i v σ H2 hv ⟨b, o4, r, rfl, s2, Rb, hj, _⟩
      have hi : i < way.length := by have := (List.getElem?_eq_some_iff.mp hv).1; rw [hst.1] at this; exact this
      have J := hj hi
      obtain ⟨qv, rfl, hq⟩ := hst.2 i v hv
      have hq2 := s2 _ _ hq
      have ex := ixN i hi
      obtain ⟨e, e1, e2⟩ := C.a _ (List.mem_of_getElem? ex)
      have lx : way.getD i 0 < row.length := by rw [hl]; exact (List.getElem?_eq_some_iff.mp e1).1
      by_cases z : i + 1 < way.length
      · have ey := ixN (i + 1) z
        obtain ⟨h, hy, _⟩ := C.s i _ _ ex ey
        obtain ⟨f, f1, f2⟩ := C.a _ (List.mem_of_getElem? ey)
        have estep : stepV way c i = [.str "move", natV (way.getD (i + 1) 0), natV (way.getD i 0)] := by unfold stepV; rw [ey]
        rw [estep] at hq2
        have hry : r[way.getD (i + 1) 0]? = some (.int h) := by
          rw [J.hi _ fun i' hi' z' => by have := nd_ix C.n z' ey; omega]; exact hy
        have J2 := J.step C.n ex ey hy lx
        refine ⟨_, rfl, _, rfl, _, rfl, w0, b, qv, m, es, r, rfl, W.mono (sameKT s2), Rb, .inl ⟨_, _, h, hq2, hry, J.md _ ex, mt_at f1 e1 f2 e2, J2.prop C P2 hl z, fun l H3 s3 nl Rl => ?_⟩⟩
        refine ⟨_, rfl, _, rfl, iteND (fun z => nomatch z) ⟨l, _, _, rfl, s2.trans s3, Rl, fun _ => J2, fun z' => by omega⟩⟩
      · have ei : i = way.length - 1 := by omega
        have ex' : way.getD i 0 = x := by rw [← ei, ex] at hx; exact Option.some.inj hx
        have estep : stepV way c i = [.str "hue", natV x, .int c] := by
          unfold stepV
          rw [List.getElem?_eq_none (by omega), ex']
        rw [estep] at hq2
        rw [ei] at J
        refine ⟨_, rfl, _, rfl, _, rfl, w0, b, qv, m, es, r, rfl, W.mono (sameKT s2), Rb, .inr ⟨x, c, hq2, J.md _ hx, hc, J.last C P2 hl h0 hx cp cf, fun l H3 s3 nl Rl => ?_⟩⟩
        exact ⟨_, rfl, _, rfl, iteND (fun z => nomatch z) ⟨l, _, _, rfl, s2.trans s3, Rl, fun z' => by omega, fun _ => ⟨r, J, rfl⟩⟩⟩
    · rintro σ H2 ⟨b, o4, r, rfl, s2, Rb, _, hend⟩
      obtain ⟨r', J, rfl⟩ := hend hst.1
      obtain ⟨n1, n2⟩ := last_nones (c := c) C hl J h0 hx
      have h61 : es.length ≤ 61 := by obtain ⟨_, _, _, _, _, _, _, z, _⟩ := W; exact z
      have Ra := R.same s2
      refine ⟨_, rfl, a, rfl, .inl ⟨⟨_, SqL.of Ra.1⟩, fun B hB => comp_enumL (K := K) (a := a) (xs := row) (fun i ys H3 => Same H2 H3 ∧ H3 B = some (.lst ys) ∧ ys = (nones (row) i).map natV) ⟨same_new (Same.refl _) hB, upd_same, rfl⟩ (fun i ys H3 _ h => SqL.of (h.1 _ _ Ra.1)) ?_ ?_⟩⟩
      · rintro i v ys H3 pp hv ⟨s3, d3, rfl⟩ hpp
        have hi : i < (row).length := (List.getElem?_eq_some_iff.mp hv).1
        have hrl := Ra.2.1
        have hes : es.length ≤ 61 := h61
        have s4 : Same H2 (upd H3 pp (.tup [.int (i : Int), v])) := same_new s3 hpp
        have d4 := keepN (u := .tup [.int (i : Int), v]) d3 hpp
        refine ⟨pp, _, rfl, SqT.of upd_same, rfl, _, _, rfl, _, _, rfl, rfl, ?_⟩
        rcases Ra.2.2 v (List.mem_of_getElem? hv) with rfl | ⟨n, rfl, _⟩
        · refine ⟨_, rfl, _, rfl, iteD rfl ⟨_, rfl, d4, small1000 (by rw [List.length_map]; have := nones_len (row) i; omega), same_own s4 hB, upd_same, ?_⟩⟩
          rw [nones, if_pos hv, List.map_append]; rfl
        · refine ⟨_, rfl, _, rfl, iteND (fun z => nomatch z) ⟨s4, d4, ?_⟩⟩
          rw [nones, if_neg (by rw [hv]; simp), List.append_nil]
      rintro ys H5 ⟨s5, dB, rfl⟩
      rw [Ra.2.1] at dB
      have Rb5 := Rb.same s5
      refine ⟨_, rfl, b, rfl, .inl ⟨⟨_, SqL.of Rb5.1⟩, fun G hG => comp_enumL (K := K) (a := b) (xs := r'.set x (.int c)) (fun i ys H3 => Same H5 H3 ∧ H3 G = some (.lst ys) ∧ ys = (nones (r'.set x (.int c)) i).map natV) ⟨same_new (Same.refl _) hG, upd_same, rfl⟩ (fun i ys H3 _ h => SqL.of (h.1 _ _ Rb5.1)) ?_ ?_⟩⟩
      · rintro i v ys H3 pp hv ⟨s3, d3, rfl⟩ hpp
        have hi : i < (r'.set x (.int c)).length := (List.getElem?_eq_some_iff.mp hv).1
        have hrl := Rb5.2.1
        have hes : es.length ≤ 61 := h61
        have s4 : Same H5 (upd H3 pp (.tup [.int (i : Int), v])) := same_new s3 hpp
        have d4 := keepN (u := .tup [.int (i : Int), v]) d3 hpp
        refine ⟨pp, _, rfl, SqT.of upd_same, rfl, _, _, rfl, _, _, rfl, rfl, ?_⟩
        rcases Rb5.2.2 v (List.mem_of_getElem? hv) with rfl | ⟨n, rfl, _⟩
        · refine ⟨_, rfl, _, rfl, iteD rfl ⟨_, rfl, d4, small1000 (by rw [List.length_map]; have := nones_len (r'.set x (.int c)) i; omega), same_own s4 hG, upd_same, ?_⟩⟩
          rw [nones, if_pos hv, List.map_append]; rfl
        · refine ⟨_, rfl, _, rfl, iteND (fun z => nomatch z) ⟨s4, d4, ?_⟩⟩
          rw [nones, if_neg (by rw [hv]; simp), List.append_nil]
      rintro ys H6 ⟨s6, dG, rfl⟩
      rw [Rb5.2.1] at dG
      have dB6 := s6 _ _ dB
      have nl := nones_len row es.length
      refine ⟨_, rfl, G, _, rfl, .inl (SqL.of dG), _, rfl, B, _, rfl, .inl (SqL.of dB6), _, _, rfl, rfl, rfl, _, rfl, iteD ?_ ?_⟩
      · rw [List.length_map, List.length_map]
        congr 1
        omega
      · obtain ⟨st, est⟩ : ∃ st, nones (r'.set x (.int c)) es.length = st := ⟨_, rfl⟩
        rw [est] at dG n1 n2
        refine ⟨_, rfl, G, rfl, ⟨_, SqL.of dG⟩, fun D hD => comp_list (K := K) (a := G) (xs := st.map natV) (fun i ys H7 => Same H6 H7 ∧ H7 D = some (.lst ys) ∧ ys = (List.replicate i true).map V.bl) ⟨same_new (Same.refl _) hD, upd_same, rfl⟩ (fun i ys H7 _ h => SqL.of (h.1 _ _ dG)) ?_ ?_⟩
        · rintro i v ys H7 hv ⟨s7, d7, rfl⟩
          obtain ⟨k, hk, rfl⟩ := nat_at hv
          have hi : i < st.length := (List.getElem?_eq_some_iff.mp hk).1
          refine compT (i := 0) ⟨_, rfl, _, rfl, B, _, rfl, .inl (SqL.of (s7 _ _ dB6)), rfl, nats_flat _, ?_⟩
          show _ ∧ _
          refine ⟨d7, small1000 (by simp; omega), same_own s7 hD, upd_same, ?_⟩
          show _ ++ [V.bl (inV (natV k) ((nones row es.length).map natV))] = _
          rw [inV_nats (n2 k (List.mem_of_getElem? hk)), List.replicate_succ', List.map_append]; rfl
        · rintro ys H7 ⟨s7, d7, rfl⟩
          refine ⟨D, List.replicate (st.map natV).length true, rfl, SqL.of d7, ?_⟩
          rw [show (List.replicate (st.map natV).length true).all id = true by simp]
          exact q _ (((s2.trans s5).trans s6).trans s7)
end
end Hue
set_option Elab.async false
set_option linter.all false
set_option maxRecDepth 100000
set_option maxHeartbeats 2000000
namespace Hue
open PySem L2
abbrev sRight : Stmt := top 19
abbrev sCase : Stmt := top 14
abbrev sLaw : Stmt := top 20
theorem ext_same {t : Addr} {H H' H'' : Hp} (e : Ext t H H') (s : Same H' H'') : Ext t H H'' := fun b o n h => s b o (e b o n h)
theorem Tape.same {t : Addr} {H H' : Hp} (T : Tape H t) (s : Same H H') : Tape H' t := T.keep fun o h => s _ _ h
theorem PrF.ref {H : Hp} {vs : List V} {F : Fan} (h : PrF H vs F) : ∀ v ∈ vs, ∃ p, v = V.ref p := fun v hv => by
  obtain ⟨i, hi⟩ := List.getElem?_of_mem hv
  obtain ⟨q, _, e, _⟩ := h.2 i v hi
  exact ⟨q, e⟩
def spRight : Sp := fun vs H Q _ => ∃ (t w a L : Addr) (m : Int) (es : List (Int × Int)) (row : List V) (p : Int) (F : Fan), vs = [.ref t, .ref w, .ref a, .ref L, .int p] ∧ Tape H t ∧ WebE H w m es ∧ LRow H a es row ∧ a ≠ t ∧ Prop2 es row ∧ FanAt H L F ∧ L ≠ t ∧ FanOk es row p F ∧ F.length ≤ 200 ∧ ∀ H', Tape H' t → Ext t H H' → Q (.bl true) H'
theorem ints_flat (ts : List Int) : (ts.map V.int).all flatV = true := by
  rw [List.all_map, List.all_eq_true]
  intro _ _
  rfl
theorem inV_ints {k : Int} {ns : List Int} (h : inV (.int k) (ns.map V.int) = true) : k ∈ ns := by
  have := (inV_hs (ys := ns.map V.int) (h := k) fun v hv => by obtain ⟨n, _, rfl⟩ := List.mem_map.mp hv; exact ⟨n, rfl⟩).mp h
  obtain ⟨n, hn, e⟩ := List.mem_map.mp this
  injection e with e
  rw [← e]; exact hn
section
variable {P : Program} {w : World} {K : PySem.W.Frag} {mg : Str → Option Value} {base : Heap}
theorem scRight : FnScope ["_law_tape_here", "_law_web_here", "_law_hueing_here", "_law_fan_here", "_law_place", "_law_kept", "_law_at", "_law_tie", "_law_back", "_law_taken", "_law_free", "_law_hue", "_law_found"] ["_law_tape_here", "_law_web_here", "_law_hueing_here", "_law_fan_here", "_law_place"] (defScope sRight) := ⟨rfl, rfl, rfl, by decide +kernel, rfl, by decide +kernel, by decide +kernel⟩
theorem ok_right {f : Addr} {fd : FuncData} (F0 : Fun K "_law_right" "_law_right" sRight f fd) (T : Txt K mg) (CD : CDraw P w K mg base) (CH : Callee P w K mg base 1 "_law_hues" ["_law_web_here", "_law_hueing_here", "_law_place"] spHues) (CF : Callee P w K mg base 1 "_law_far" ["_law_web_here", "_law_tie", "_law_place"] spFar)
    (CT : Callee P w K mg base 1 "turning" ["fan", "at", "hue"] spTurning) (CU : Callee P w K mg base 1 "_law_due" ["_law_fan_here", "_law_at", "_law_hue"] spTurning) (CS : Callee P w K mg base 3 "_law_same" ["_law_found", "_law_due_here"] (spSameR (Al 2))) (CL : Callee P w K mg base 4 "_law_lets" ["_law_web_here", "_law_hueing_here", "_law_steps"] spLets) :
    FnOk P w K mg base CX0 5 f fd ["_law_tape_here", "_law_web_here", "_law_hueing_here", "_law_fan_here", "_law_place"] spRight := by
  refine F0.ok scRight (fun vs H Q E h => ?_) (fun cdv A outer s H vs Q E hr h => ?_)
  · obtain ⟨_, _, _, _, _, _, _, _, _, rfl, _⟩ := h; rfl
  · obtain ⟨t, w0, a, L, m, es, row, p, F, rfl, Tp, W, R, at', P2, FA, Lt, O, h200, q⟩ := h
    have hr1 : Room 1 _ := hr.mono (by decide)
    have hr3 : Room 3 _ := hr.mono (by decide)
    have hu := hr.units0
    refine ⟨_, pss_cons (ps_set (i := 5) scRight.nd rfl (Or.inl rfl) (pe_callTy call_list_of (by rfl) T.list b_list (pa_cons (pv 3) pa_nil)))
      (pss_cons (ps_for PassesOwn.never rfl (pi_enum (by rfl) T.enum (pa_cons (pv 3) pa_nil)) (pg_tup rfl (pgs_cons (pg_name (i := 6) scRight.nd rfl (Or.inl rfl)) (pgs_cons (pg_tup rfl (pgs_cons (pg_name (i := 7) scRight.nd rfl (Or.inl rfl)) (pgs_cons (pg_name (i := 8) scRight.nd rfl (Or.inl rfl)) pgs_nil))) pgs_nil)))
        (pss_cons (ps_set (i := 9) scRight.nd rfl (Or.inr rfl) (pe_op op_cat (pe_def CH hr1 (by rfl) (pa_cons (pv 1) (pa_cons (pv 2) (pa_cons (pv 4) pa_nil)))) (pe_def CH hr1 (by rfl) (pa_cons (pv 1) (pa_cons (pv 2) (pa_cons (pe_def CF hr1 (by rfl) (pa_cons (pv 1) (pa_cons (pv 7) (pa_cons (pv 4) pa_nil)))) pa_nil))))))
        (@pss_cons _ _ _ _ _ (ps_setComp (i := 10) ["_law_hue"] ["_law_taken"] [9] scRight.nd rfl rfl (pi_tup (pe_tup (pa_cons pe_int (pa_cons pe_int (pa_cons pe_int (pa_cons pe_int (pa_cons pe_int (pa_cons pe_int (pa_cons pe_int (pa_cons pe_int pa_nil)))))))))) (fun _ _ _ _ _ => pg_name (i := 0) nd_ht rfl (Or.inl rfl)) (fun _ _ _ _ _ => pifs_one (pt_cmpR (op_notInK (K := K) rfl) (pv 0) (pv 1) (by with_unfolding_all rfl))) (fun _ _ _ _ _ => pv 0))
        (pss_one (ps_for PassesOwn.never rfl (pi_list (pe_op op_cat (pe_slice sl_list (pv 10) po_none (po_some pe_int)) (pe_lst (pa_cons (pe_def CD hr1 (by rfl) (pa_cons (pv 0) (pa_cons pe_int pa_nil))) pa_nil)))) (pg_name (i := 11) scRight.nd rfl (Or.inl rfl))
          (pss_cons (ps_set (i := 12) scRight.nd rfl (Or.inl rfl) (pe_def CT hr1 (by rfl) (pa_cons (pv 3) (pa_cons (pv 6) (pa_cons (pv 11) pa_nil)))))
          (pss_cons (ps_if (pw_or (pt_not (pt_val (pe_def CS hr3 (by rfl) (pa_cons (pv 12) (pa_cons (pe_def CU hr1 (by rfl) (pa_cons (pv 3) (pa_cons (pv 6) (pa_cons (pv 11) pa_nil)))) pa_nil))))) (pw_or1 (pt_cmpR (op_neSame hu) (pv 3) (pv 5) (nomark _)))).pt pss_no pss_nil)
          (pss_one (ps_if (pw_and (pt_cmpR op_in_seq (pv 11) (pv 10) (by with_unfolding_all rfl)) (pw_and1 (pt_not (pt_val (pe_def CL hr (by rfl) (pa_cons (pv 1) (pa_cons (pv 2) (pa_cons (pv 12) pa_nil)))))))).pt pss_no pss_nil)))))))))
      (pss_one (ps_ret pe_bl))), ?_⟩
    obtain ⟨fs, hL, hF⟩ := FA
    refine ⟨_, rfl, L, _, rfl, .inl (SqL.of hL), fun Kp hKp => ?_⟩
    have s1 : Same H (upd H Kp (.lst fs)) := same_new (Same.refl _) hKp
    have k1 : (upd H Kp (.lst fs)) Kp = some (.lst fs) := upd_same
    have Kt : Kp ≠ t := Tp.ne hKp
    generalize (upd H Kp (.lst fs)) = H1 at s1 k1
    have T1 := Tp.same s1
    have hL1 := s1 _ _ hL
    have hF1 := hF.mono (sameKT s1)
    have W1 := W.mono (sameKT s1)
    have R1 := R.same s1
    have h61 : es.length ≤ 61 := by obtain ⟨_, _, _, _, _, _, _, z, _⟩ := W; exact z
    refine ⟨_, rfl, L, rfl, .inl ⟨⟨_, SqL.of hL1⟩, for_enumL (K := K) (a := L) (xs := fs) (fun i σ H2 => ∃ (o6 o7 o8 o9 o10 o11 o12 : Option V), σ = [some (.ref t), some (.ref w0), some (.ref a), some (.ref L), some (.int p), some (.ref Kp), o6, o7, o8, o9, o10, o11, o12] ∧ Tape H2 t ∧ Ext t H1 H2)
      ⟨none, none, none, none, none, none, none, rfl, T1, Ext.refl t H1⟩ (fun i σ H2 _ h => by obtain ⟨_, _, _, _, _, _, _, _, _, x2⟩ := h; exact SqL.of (x2 _ _ Lt hL1)) ?_ ?_⟩⟩
    · rintro i v σ H2 pp hv ⟨o6, o7, o8, o9, o10, o11, o12, rfl, T2, x2⟩ hpp
      obtain ⟨qv, fi, rfl, efi, hq⟩ := hF1.2 i v hv
      have hi : i < F.length := (List.getElem?_eq_some_iff.mp efi).1
      have hq2 := (x2.keepT T1) _ _ hq
      have T3 : Tape (upd H2 pp (.tup [.int (i : Int), .ref qv])) t := T2.new hpp
      have x3 : Ext t H1 (upd H2 pp (.tup [.int (i : Int), .ref qv])) := x2.new hpp
      have q3 := keepN (u := .tup [.int (i : Int), .ref qv]) hq2 hpp
      refine ⟨pp, _, rfl, SqT.of upd_same, rfl, _, _, rfl, _, _, rfl, qv, _, rfl, SqT.of q3, rfl, _, _, rfl, _, _, rfl, rfl, rfl, ?_⟩
      generalize (upd H2 pp (.tup [.int (i : Int), .ref qv])) = H3 at T3 x3 q3
      have W3 := W1.mono (x3.keepT T1)
      have R3 : LRow H3 a es row := ⟨x3 _ _ at' R1.1, R1.2⟩
      obtain ⟨e, e1, e2⟩ := O.a fi (List.mem_of_getElem? efi)
      have hfl : fi.1 < es.length := (List.getElem?_eq_some_iff.mp e1).1
      refine ⟨_, rfl, _, rfl, _, rfl, w0, a, m, es, row, p, rfl, W3, R3, fun l1 H4 nl1 s4 hl1 => ?_⟩
      refine ⟨_, rfl, _, rfl, _, rfl, _, rfl, _, rfl, w0, m, es, fi.1, p, rfl, W3.mono (sameKT s4), hfl, w0, a, m, es, row, farI es fi.1 p, rfl, W3.mono (sameKT s4), R3.same s4, fun l2 H5 nl2 s5 hl2 => ?_⟩
      have n1 := hsL_len es row p es.length
      have n2 := hsL_len es row (farI es fi.1 p) es.length
      refine ⟨l1, l2, _, _, rfl, rfl, s5 _ _ hl1, hl2, Nat.le_of_lt (small1000 (by omega)), fun tk htk => ?_⟩
      have s6 : Same H3 (upd H5 tk (.lst (hsL es row p es.length ++ hsL es row (farI es fi.1 p) es.length))) := same_new (s4.trans s5) htk
      have t6 : (upd H5 tk (.lst (hsL es row p es.length ++ hsL es row (farI es fi.1 p) es.length))) tk = some (.lst (hsL es row p es.length ++ hsL es row (farI es fi.1 p) es.length)) := upd_same
      generalize (upd H5 tk (.lst (hsL es row p es.length ++ hsL es row (farI es fi.1 p) es.length))) = H6 at s6 t6
      have tin : ∀ v ∈ hsL es row p es.length ++ hsL es row (farI es fi.1 p) es.length, ∃ n, v = V.int n := fun v hv => (List.mem_append.mp hv).elim hsL_int hsL_int
      have tfl : (hsL es row p es.length ++ hsL es row (farI es fi.1 p) es.length).all flatV = true := List.all_eq_true.mpr fun v hv => by obtain ⟨n, rfl⟩ := tin v hv; rfl
      have tno : ∀ h, inV (.int h) (hsL es row p es.length ++ hsL es row (farI es fi.1 p) es.length) = false → (∀ k, atH es row p h k = false) ∧ ∀ k, atH es row (farI es fi.1 p) h k = false := fun h z => by
        have z' : V.int h ∉ hsL es row p es.length ++ hsL es row (farI es fi.1 p) es.length := fun y => by rw [(inV_hs tin).mpr y] at z; cases z
        rw [List.mem_append, not_or] at z'
        refine ⟨noH_iff.mp ?_, noH_iff.mp ?_⟩
        · rw [← Bool.not_eq_true, inV_hs fun v hv => hsL_int hv]; exact z'.1
        · rw [← Bool.not_eq_true, inV_hs fun v hv => hsL_int hv]; exact z'.2
      generalize (hsL es row p es.length ++ hsL es row (farI es fi.1 p) es.length) = tkn at *
      refine ⟨by show 8 ≤ sizeLine; decide, fun ct hct => ?_⟩
      have s7 : Same H3 (upd H6 ct (.tup [.int 0, .int 1, .int 2, .int 3, .int 4, .int 5, .int 7, .int 90])) := same_new s6 hct
      have t7 := keepN (u := .tup [.int 0, .int 1, .int 2, .int 3, .int 4, .int 5, .int 7, .int 90]) t6 hct
      have c7 : (upd H6 ct (.tup [.int 0, .int 1, .int 2, .int 3, .int 4, .int 5, .int 7, .int 90])) ct = some (.tup (([0, 1, 2, 3, 4, 5, 7, 90] : List Int).map V.int)) := upd_same
      have cpos : ∀ h ∈ ([0, 1, 2, 3, 4, 5, 7, 90] : List Int), 0 ≤ h := by decide
      generalize (upd H6 ct (.tup [.int 0, .int 1, .int 2, .int 3, .int 4, .int 5, .int 7, .int 90])) = H7 at s7 t7 c7
      generalize hcs : ([0, 1, 2, 3, 4, 5, 7, 90] : List Int) = cs at c7 cpos
      have hcl : cs.length = 8 := by rw [← hcs]; rfl
      refine ⟨ct, rfl, ⟨_, SqT.of c7⟩, fun D hD => comp_tup (K := K) (a := ct) (xs := cs.map V.int) (fun j ys H8 => Same H7 H8 ∧ H8 D = some (.lst ys) ∧ ∃ gs : List Int, ys = gs.map V.int ∧ gs.length ≤ j ∧ ∀ h ∈ gs, 0 ≤ h ∧ inV (.int h) tkn = false) ⟨same_new (Same.refl _) hD, upd_same, [], rfl, Nat.le_refl _, fun h z => by cases z⟩ (fun j ys H8 _ h => SqT.of (h.1 _ _ c7)) ?_ ?_⟩
      · rintro j v ys H8 hv ⟨s8, d8, gs, rfl, lg, hg⟩
        obtain ⟨h, hh, rfl⟩ : ∃ h, cs[j]? = some h ∧ V.int h = v := by
          rw [List.getElem?_map] at hv
          cases e : cs[j]? with
          | none => rw [e] at hv; cases hv
          | some c => rw [e] at hv; exact ⟨c, rfl, by simpa using hv⟩
        have hj : j < cs.length := (List.getElem?_eq_some_iff.mp hh).1
        refine ⟨_, rfl, _, rfl, tk, _, rfl, .inl (SqL.of (s8 _ _ t7)), rfl, tfl, _, rfl, ?_⟩
        show if (!inV (.int h) tkn) = true then _ else _
        refine ite2 (fun z => ⟨_, rfl, d8, small1000 (by rw [List.length_map]; omega), same_own s8 hD, upd_same, gs ++ [h], by rw [List.map_append]; rfl, by rw [List.length_append]; show _ + 1 ≤ _; omega, fun x hx => ?_⟩) (fun z => ⟨s8, d8, gs, rfl, by omega, hg⟩)
        rcases List.mem_append.mp hx with hx | hx
        · exact hg x hx
        · rw [List.mem_singleton.mp hx]
          exact ⟨cpos h (List.mem_of_getElem? hh), by simpa using z⟩
      · rintro ys H8 ⟨s8, d8, gs, rfl, lg, hg⟩
        rw [List.length_map] at lg
        have s38 := s7.trans s8
        refine ⟨_, rfl, 2, rfl, D, _, rfl, SqL.of d8, fun c1 hc1 => ?_⟩
        obtain ⟨g1, eg1, hg1⟩ : ∃ g1 : List Int, cutV (gs.map V.int) none (some 2) = g1.map V.int ∧ g1.length ≤ gs.length ∧ ∀ h ∈ g1, 0 ≤ h := by
          refine ⟨(gs.drop (HT.sIx (gs.map V.int).length 0 none)).take (HT.sIx (gs.map V.int).length (gs.map V.int).length (some 2) - HT.sIx (gs.map V.int).length 0 none), ?_, ?_, fun h hh => (hg h (List.mem_of_mem_drop (List.mem_of_mem_take hh))).1⟩
          · rw [List.map_take, List.map_drop]; rfl
          · rw [List.length_take, List.length_drop]; omega
        rw [eg1]
        have s9 : Same H3 (upd H8 c1 (.lst (g1.map V.int))) := same_new s38 hc1
        have T9 := T3.same s9
        have c9 : (upd H8 c1 (.lst (g1.map V.int))) c1 = some (.lst (g1.map V.int)) := upd_same
        have d9 := keepN (u := .lst (g1.map V.int)) d8 hc1
        have c1t : c1 ≠ t := (T3.same s38).ne hc1
        have Dt : D ≠ t := (T3.same s7).ne hD
        generalize (upd H8 c1 (.lst (g1.map V.int))) = H9 at s9 T9 c9 d9
        refine ⟨_, rfl, t, 6, rfl, T9, by decide, by decide, fun r HA r0 r1 TA xA => ⟨by show 1 ≤ sizeLine; decide, fun c2 hc2 => ?_⟩⟩
        have cA := xA _ _ c1t c9
        have dA := xA _ _ Dt d9
        refine ⟨c1, c2, _, _, rfl, rfl, keepN cA hc2, upd_same, Nat.le_of_lt (small1000 (by rw [List.length_map]; show _ + 1 ≤ _; omega)), fun c3 hc3 => ?_⟩
        have sB : Same HA (upd (upd HA c2 (.lst [.int r])) c3 (.lst (g1.map V.int ++ [.int r]))) := same_new (same_new (Same.refl _) hc2) hc3
        have cB : (upd (upd HA c2 (.lst [.int r])) c3 (.lst (g1.map V.int ++ [.int r]))) c3 = some (.lst ((g1 ++ [r]).map V.int)) := by rw [upd_same, List.map_append]; rfl
        generalize (upd (upd HA c2 (.lst [.int r])) c3 (.lst (g1.map V.int ++ [.int r]))) = HB at sB cB
        have x3B : Ext t H3 HB := ext_same ((ext_same (Ext.refl t H3) s9).trans xA) sB
        have x1B : Ext t H1 HB := x3.trans x3B
        have TB := TA.same sB
        have dB := sB _ _ dA
        have WB := W3.mono (x3B.keepT T3)
        have RB : LRow HB a es row := ⟨x3B _ _ at' R3.1, R3.2⟩
        have kB := x1B _ _ Kt k1
        have LB := x1B _ _ Lt hL1
        have FB := hF1.mono (x1B.keepT T1)
        have hall : ∀ h ∈ g1 ++ [r], 0 ≤ h := fun h hh => (List.mem_append.mp hh).elim (hg1.2 h) fun z => by rw [List.mem_singleton.mp z]; exact r0
        generalize g1 ++ [r] = g3 at cB hall
        refine ⟨c3, rfl, ⟨_, SqL.of cB⟩, for_list (K := K) (a := c3) (xs := g3.map V.int) (fun j σ HC => ∃ (o11 o12 : Option V), σ = [some (.ref t), some (.ref w0), some (.ref a), some (.ref L), some (.int p), some (.ref Kp), some (.int (i : Int)), some (natV fi.1), some (optV fi.2), some (.ref tk), some (.ref D), o11, o12] ∧ Same HB HC) ⟨_, _, rfl, Same.refl _⟩ (fun j σ HC _ h => by obtain ⟨_, _, _, sC⟩ := h; exact SqL.of (sC _ _ cB)) ?_ ?_⟩
        · rintro j v σ HC hv ⟨o11', o12', rfl, sC⟩
          obtain ⟨h, hh, rfl⟩ : ∃ h, g3[j]? = some h ∧ V.int h = v := by
            rw [List.getElem?_map] at hv
            cases e : g3[j]? with
            | none => rw [e] at hv; cases hv
            | some c => rw [e] at hv; exact ⟨c, rfl, by simpa using hv⟩
          have h0 := hall h (List.mem_of_getElem? hh)
          obtain ⟨C, w1, w2, w3, _⟩ := way_ok O (i + 1) i (Nat.lt_succ_self i) _ efi
          refine ⟨_, rfl, _, rfl, _, rfl, es, row, p, L, F, i, h, rfl, ⟨fs, sC _ _ LB, FB.mono (sameKT sC)⟩, O, hi, h200, fun S1 HD nS1 sD S1d => ?_⟩
          have sBD := sC.trans sD
          refine ⟨_, rfl, _, rfl, _, rfl, _, rfl, es, row, p, L, F, i, h, rfl, ⟨fs, sBD _ _ LB, FB.mono (sameKT sBD)⟩, O, hi, h200, fun S2 HE nS2 sE S2d => ?_⟩
          have S1e := S1d.same sE
          refine ⟨_, _, rfl, steps_al S1e S2d (by omega), fun HF' sF => ⟨_, rfl, iteF ?_⟩⟩
          have sBF := (sBD.trans sE).trans sF
          refine ⟨_, rfl, _, rfl, L, Kp, fs, rfl, rfl, SqL.of (sBF _ _ LB), SqL.of (sBF _ _ kB), FB.ref, _, rfl, iteF ?_⟩
          refine ⟨_, rfl, _, rfl, D, _, rfl, .inl (SqL.of (sBF _ _ dB)), rfl, ints_flat gs, _, rfl, ?_⟩
          show if inV (.int h) (gs.map V.int) = true then _ else _
          refine ite2 (fun z => ?_) (fun z => iteF ⟨_, _, rfl, sBF⟩)
          have hgs := hg h (inV_ints z)
          obtain ⟨n1', n2'⟩ := tno h hgs.2
          refine ⟨_, rfl, _, rfl, _, rfl, w0, a, S1, m, es, row, p, h, wayF F i, fi.1, rfl, WB.mono (sameKT sBF), RB.same sBF, P2, C, S1e.same sF, w2, by omega, w1, hgs.1, n1', n2', fun HG sG => ⟨_, rfl, iteF ⟨_, _, rfl, sBF.trans sG⟩⟩⟩
        · rintro σ HC ⟨o11', o12', rfl, sC⟩
          exact ⟨_, _, _, _, _, _, _, rfl, TB.same sC, ext_same x1B sC⟩
    · rintro σ H2 ⟨o6, o7, o8, o9, o10, o11, o12, rfl, T2, x2⟩
      exact q H2 T2 ((ext_same (Ext.refl t H) s1).trans x2)
end
end Hue
set_option Elab.async false
set_option linter.all false
set_option maxRecDepth 100000
set_option maxHeartbeats 2000000
namespace Hue
open PySem L2
theorem for_enumT {K : PySem.W.Frag} {a : Addr} {xs : List V} {g : TG} {tb : TS} {D : Ends} {σ : St} {H : Hp} (Pv : Nat → St → Hp → Prop) (h0 : Pv 0 σ H) (hl : ∀ i σ H, i ≤ xs.length → Pv i σ H → SqT K H a xs)
    (hs : ∀ i x σ H p, xs[i]? = some x → Pv i σ H → H p = none → g (.ref p) σ (upd H p (.tup [.int i, x])) fun σ2 H2 => tb { D with nx := Pv (i + 1), ct := Pv (i + 1), bk := D.nx } σ2 H2) (hd : ∀ σ H, Pv xs.length σ H → D.nx σ H) :
    ∃ W : Nat → Nat → St → Hp → Prop, (∃ m, W 0 m σ H) ∧ ∀ i m σ H, W i m σ H →
      ((IteT K a).stop i H ∧ D.nx σ H) ∨ ((IteT K a).go i H ∧ ∃ N : St → Hp → Prop, (∀ σ' H', N σ' H' → ∃ m', m' < m ∧ W (i + 1) m' σ' H') ∧ ∀ x H', (IteT K a).yld i H x H' → g x σ H' fun σ2 H2 => tb { D with nx := N, ct := N, bk := D.nx } σ2 H2) := by
  refine ⟨fun i m σ H => m = xs.length - i ∧ i ≤ xs.length ∧ Pv i σ H, ⟨xs.length, by simp, Nat.zero_le _, h0⟩, ?_⟩
  rintro i m σ H ⟨rfl, hi, p⟩
  have q := hl i σ H hi p
  by_cases hlt : i < xs.length
  · refine .inr ⟨⟨xs, xs[i], q, by simp [hlt]⟩, Pv (i + 1), fun σ' H' p' => ⟨xs.length - (i + 1), by omega, rfl, hlt, p'⟩, fun x H' y => ?_⟩
    obtain ⟨pp, v, hp, e1, hv, e2⟩ := y
    subst e1 e2
    exact hs i v σ _ pp (hv xs q) p hp
  · have e : i = xs.length := by omega
    subst e
    exact .inl ⟨⟨xs, q, rfl⟩, hd σ H p⟩def spCase : Sp := fun vs H Q _ => ∃ (t : Addr) (b : Bool), vs = [.ref t, .bl b] ∧ Tape H t ∧ ∀ (r w l : Addr) (m : Int) (es : List (Int × Int)) (row : List V) (H' : Hp), H' r = some (.tup [.ref w, .ref l]) → WebE H' w m es → LRow H' l es row → Prop2 es row → H l = none → l ≠ t → Tape H' t → Ext t H H' → Q (.ref r) H'
def spLaw (K : PySem.W.Frag) : Sp := fun vs H Q _ => ∃ (a : Addr) (ns : List Int), vs = [.ref a] ∧ SqL K H a (ns.map V.int) ∧ ns.length ≤ 63 ∧ ∀ H', Q (.bl true) H'
theorem same_ext {H H2 H3 H4 : Hp} {t : Addr} (s : Same H H2) (n : H2 t = none) (s3 : Same H2 H3) (E : Ext t H3 H4) : Same H H4 := fun b o h => E b o (ne_of_none (s b o h) n) (s3 b o (s b o h))
section
variable {P : Program} {w : World} {K : PySem.W.Frag} {mg : Str → Option Value} {base : Heap}
theorem scCase : FnScope ["_law_tape_here", "_law_bare", "_law_web_here"] ["_law_tape_here", "_law_bare"] (defScope sCase) := ⟨rfl, rfl, rfl, by decide +kernel, rfl, by decide +kernel, by decide +kernel⟩
theorem ok_case {f : Addr} {fd : FuncData} (F : Fun K "_law_case" "_law_case" sCase f fd) (CD : CDraw P w K mg base) (CW : Callee P w K mg base 3 "_law_web" ["_law_tape_here", "_law_great"] spWeb) (CH : Callee P w K mg base 2 "_law_hueing" ["_law_tape_here", "_law_web_here", "_law_bare"] spHueP) : FnOk P w K mg base CX0 4 f fd ["_law_tape_here", "_law_bare"] spCase := by
  refine F.ok scCase (fun vs H Q E h => ?_) (fun cdv A outer s H vs Q E hr h => ?_)
  · obtain ⟨_, _, rfl, _⟩ := h; rfl
  · obtain ⟨t, b, rfl, Tp, q⟩ := h
    have hr1 := hr.mono (show 1 ≤ 3 by decide)
    have hr2 := hr.mono (show 2 ≤ 3 by decide)
    refine ⟨_, pss_cons (ps_set (i := 2) scCase.nd rfl (Or.inl rfl) (pe_def CW hr (by rfl) (pa_cons (pv 0) (pa_cons (pe_cmpR op_eq (pe_def CD hr1 (by rfl) (pa_cons (pv 0) (pa_cons pe_int pa_nil))) pe_int (nomark _)) pa_nil))))
      (pss_one (ps_ret (pe_tup (pa_cons (pv 2) (pa_cons (pe_def CH hr2 (by rfl) (pa_cons (pv 0) (pa_cons (pv 2) (pa_cons (pv 1) pa_nil)))) pa_nil))))), ?_⟩
    refine ⟨_, rfl, _, rfl, t, _, rfl, Tp, by decide, by decide, fun r H1 r0 r1 T1 x1 => ⟨rfl, t, _, rfl, T1, fun w1 m vs1 H2 W1 T2 x2 => ?_⟩⟩
    obtain ⟨es, We, _⟩ := W1.pure
    refine ⟨_, rfl, _, rfl, _, rfl, _, rfl, t, w1, b, m, es, rfl, T2, We, fun l row H3 G hlen hh hp => ⟨by show 2 ≤ sizeLine; decide, fun R hR => ?_⟩⟩
    have kk : KeepT H2 (upd H3 R (.tup [.ref w1, .ref l])) := (G.ext.keepT T2).trans (KeepT.new hR)
    exact q R w1 l m es row _ upd_same (We.mono kk) ⟨keepN G.at' hR, hlen, hh⟩ hp ((x1.trans x2).free G.fr G.ne.symm) G.ne.symm (G.tape.new hR) (((x1.trans x2).trans G.ext).new hR)
theorem scLaw : FnScope ["_law_script", "_law_k", "_law_tape_here", "_law_web_here", "_law_hueing_here", "_law_tie", "_law_pair", "_law_place"] ["_law_script"] (defScope sLaw) := ⟨rfl, rfl, rfl, by decide +kernel, rfl, by decide +kernel, by decide +kernel⟩
theorem ok_law {f : Addr} {fd : FuncData} (F : Fun K "law" "law" sLaw f fd) (T : Txt K mg) (CT : Callee P w K mg base 1 "_law_tape" ["_law_script", "_law_k"] (spTape K)) (CC : Callee P w K mg base 4 "_law_case" ["_law_tape_here", "_law_bare"] spCase)
    (CF : Callee P w K mg base 2 "_law_fan" ["_law_web_here", "_law_hueing_here", "_law_tie", "_law_place", "_law_hues_here"] spFan) (CR : Callee P w K mg base 5 "_law_right" ["_law_tape_here", "_law_web_here", "_law_hueing_here", "_law_fan_here", "_law_place"] spRight) : FnOk P w K mg base CX0 6 f fd ["_law_script"] (spLaw K) := by
  refine F.ok scLaw (fun vs H Q E h => ?_) (fun cdv A outer s H vs Q E hr h => ?_)
  · obtain ⟨a, ns, rfl, _⟩ := h; rfl
  · obtain ⟨a, ns, rfl, hS, hlen, k⟩ := h
    have hr1 : Room 1 _ := hr.mono (by decide)
    have hr2 : Room 2 _ := hr.mono (by decide)
    have hr4 : Room 4 _ := hr.mono (by decide)
    refine ⟨_, pss_cons (ps_for PassesOwn.never rfl (pi_range1 (by rfl) T.range (pa_cons (pe_op op_add pe_int (pe_callB (call_min2 rfl) (by rfl) T.min b_min (pa_cons pe_int (pa_cons (pe_callB call_len_seq (by rfl) T.len b_len (pa_cons (pv 0) pa_nil)) pa_nil)))) pa_nil)) (pg_name (i := 1) scLaw.nd rfl (Or.inl rfl))
        (pss_cons (ps_set (i := 2) scLaw.nd rfl (Or.inl rfl) (pe_def CT hr1 (by rfl) (pa_cons (pv 0) (pa_cons (pv 1) pa_nil))))
        (pss_cons (ps_asg (pe_def CC hr4 (by rfl) (pa_cons (pv 2) (pa_cons pe_bl pa_nil))) (pg_tup rfl (pgs_cons (pg_name (i := 3) scLaw.nd rfl (Or.inl rfl)) (pgs_cons (pg_name (i := 4) scLaw.nd rfl (Or.inl rfl)) pgs_nil))))
        (pss_one (ps_for PassesOwn.never rfl (pi_enum (by rfl) T.enum (pa_cons (pe_ix ix_tup (pv 3) pe_int (fun _ _ => rfl)) pa_nil)) (pg_tup rfl (pgs_cons (pg_name (i := 5) scLaw.nd rfl (Or.inl rfl)) (pgs_cons (pg_name (i := 6) scLaw.nd rfl (Or.inl rfl)) pgs_nil)))
          (pss_one (ps_for PassesOwn.never rfl (pi_tup (pv 6)) (pg_name (i := 7) scLaw.nd rfl (Or.inl rfl))
            (pss_one (ps_if (pt_cmp (pc_isN (pe_ix ix_list (pv 4) (pv 5) (fun _ _ => rfl)))) (pss_one (ps_if (pt_not (pt_val (pe_def CR hr (by rfl) (pa_cons (pv 2) (pa_cons (pv 3) (pa_cons (pv 4) (pa_cons (pe_def CF hr2 (by rfl) (pa_cons (pv 3) (pa_cons (pv 4) (pa_cons (pv 5) (pa_cons (pv 7) (pa_cons pe_int pa_nil)))))) (pa_cons (pv 7) pa_nil)))))))) pss_no pss_nil)) pss_nil))))))))) 
      (pss_one (ps_ret pe_bl)), ?_⟩
    refine ⟨_, rfl, a, _, rfl, .inl hS, 7, _, rfl, _, _, rfl, rfl, _, rfl, by split <;> omega, by split <;> omega, for_range (lo := 0) (fun i σ H2 => ∃ o1 o2 o3 o4 o5 o6 o7 : Option V, σ = [some (.ref a), o1, o2, o3, o4, o5, o6, o7] ∧ Same H H2)
      ⟨none, none, none, none, none, none, none, rfl, Same.refl _⟩ ?_ ?_⟩
    · rintro i σ H2 hi ⟨o1, o2, o3, o4, o5, o6, o7, rfl, s2⟩
      refine ⟨_, rfl, _, rfl, a, ns, 0 + (i : Int), rfl, s2.seq hS, by omega, hlen, fun t H3 ht T3 s3 => ?_⟩
      refine ⟨_, rfl, t, true, rfl, T3, fun r wb l m es row H4 hr4' W4 R4 P4 nl lt T4 x4 => ?_⟩
      refine ⟨r, _, rfl, SqT.of hr4', rfl, _, _, rfl, _, _, rfl, rfl, ?_⟩
      obtain ⟨ta, ts, hw, ht', htl, he, hbd, h61, hm⟩ := id W4
      refine ⟨_, rfl, wb, _, _, _, rfl, rfl, SqT.of hw, (rfl : atI [V.int m, V.ref ta] 1 = some (.ref ta)), ta, rfl, .inr ⟨⟨_, SqT.of ht'⟩, for_enumT (K := K) (a := ta) (xs := ts) (fun j σ H5 => ∃ o5 o6 o7 : Option V, σ = [some (.ref a), some (.int (0 + (i : Int))), some (.ref t), some (.ref wb), some (.ref l), o5, o6, o7] ∧ Tape H5 t ∧ Ext t H4 H5)
        ⟨_, _, _, rfl, T4, Ext.refl t H4⟩ (fun j σ H5 _ h => by obtain ⟨_, _, _, _, _, x5⟩ := h; exact SqT.of ((x5.keepT T4) _ _ ht')) ?_ ?_⟩⟩
      · rintro j v σ H5 pp hv ⟨o5', o6', o7', rfl, T5, x5⟩ hpp
        obtain ⟨qv, e, rfl, ee, hq⟩ := he j v hv
        have hj : j < ts.length := (List.getElem?_eq_some_iff.mp hv).1
        have T6 : Tape (upd H5 pp (.tup [.int (j : Int), .ref qv])) t := T5.new hpp
        have x6 : Ext t H4 (upd H5 pp (.tup [.int (j : Int), .ref qv])) := x5.new hpp
        refine ⟨pp, _, rfl, SqT.of upd_same, rfl, _, _, rfl, _, _, rfl, rfl, ?_⟩
        generalize (upd H5 pp (.tup [.int (j : Int), .ref qv])) = H6 at T6 x6
        have q6 := (x6.keepT T4) _ _ hq
        refine ⟨_, rfl, qv, rfl, ⟨_, SqT.of q6⟩, for_tup (K := K) (a := qv) (xs := [.int e.1, .int e.2]) (fun n σ H7 => ∃ o7 : Option V, σ = [some (.ref a), some (.int (0 + (i : Int))), some (.ref t), some (.ref wb), some (.ref l), some (.int (j : Int)), some (.ref qv), o7] ∧ Tape H7 t ∧ Ext t H4 H7) ⟨_, rfl, T6, x6⟩ (fun n σ H7 _ h => by obtain ⟨_, _, _, x7⟩ := h; exact SqT.of ((x7.keepT T4) _ _ hq)) ?_ ?_⟩
        · rintro n x σ H7 hx ⟨o7'', rfl, T7, x7⟩
          obtain ⟨p, rfl, hp⟩ : ∃ p, x = .int p ∧ (p = e.1 ∨ p = e.2) := by
            have := List.mem_of_getElem? hx
            simp only [List.mem_cons, List.not_mem_nil, or_false] at this
            rcases this with rfl | rfl
            · exact ⟨_, rfl, .inl rfl⟩
            · exact ⟨_, rfl, .inr rfl⟩
          have R7 : LRow H7 l es row := ⟨x7 _ _ lt R4.1, R4.2⟩
          have W7 := W4.mono (x7.keepT T4)
          have hjr : j < row.length := by rw [R4.2.1]; omega
          have erj : row[j]? = some (row[j]'hjr) := by simp
          refine ⟨_, rfl, _, rfl, l, row, _, _, rfl, rfl, SqL.of R7.1, atI_nat erj, _, rfl, ?_⟩
          rcases R4.2.2 _ (List.getElem_mem hjr) with z | ⟨c, z, _⟩
          · rw [z] at erj ⊢
            refine iteD rfl ?_
            refine ⟨_, rfl, _, rfl, _, rfl, _, rfl, _, rfl, _, rfl, _, rfl, wb, l, m, es, row, j, p, 100, e, rfl, W7, R7, erj, ee, hp, fun L H8 s8 nL FA => ?_⟩
            have T8 := T7.same s8
            have O := fanL_ok (hh := 100) (n := (nearL es row p es.length).length) (fan_one erj ee hp) (near_ok (es := es) (p := p) erj es.length)
            have hfl : (fanOf es row p 100 j).length ≤ 200 := by
              have h1 := fanL_len (es := es) (row := row) (p := p) (hh := 100) (n := (nearL es row p es.length).length) (F := [(j, none)]) (near := nearL es row p es.length)
              have h2 := nearL_len (es := es) (row := row) (p := p) es.length
              unfold fanOf
              simp at h1
              omega
            refine ⟨_, rfl, t, wb, l, L, m, es, row, p, fanOf es row p 100 j, rfl, T8, W7.mono (sameKT s8), R7.same s8, lt, P4, FA, T7.ne nL, O, hfl, fun H9 T9 x9 => ⟨_, rfl, iteF ⟨_, rfl, T9, (ext_same x7 s8).trans x9⟩⟩⟩
          · rw [z] at erj ⊢
            exact iteND (fun z => nomatch z) ⟨_, rfl, T7, x7⟩
        · rintro σ H7 ⟨o7'', rfl, T7, x7⟩
          exact ⟨_, _, _, rfl, T7, x7⟩
      · rintro σ H5 ⟨o5', o6', o7', rfl, T5, x5⟩
        exact ⟨_, _, _, _, _, _, _, rfl, same_ext s2 ht s3 (x4.trans x5)⟩
    · rintro σ H2 ⟨o1, o2, o3, o4, o5, o6, o7, rfl, s2⟩
      exact k H2
end
end Hue
set_option Elab.async false
set_option linter.all false
set_option maxRecDepth 100000
namespace Hue
open PySem L2
theorem all_mk {l : PySem.W.OpenLaw} {w : World} {K : PySem.W.Frag} {h : Heap} {mg : Str → Option Value} {fa f1 f3 f4 f5 f6 f7 f8 f9 f11 f12 f13 f14 f15 f16 f17 f18 f19 f20 : Addr} (X : K.In h) (G : h.Ns mainGlobals mg) (hfa : mg "law" = some (.ref fa))
    {od1 an1 od3 an3 od4 an4 od5 an5 od6 an6 od7 an7 od8 an8 od9 an9 od11 an11 od12 an12 od13 an13 od14 an14 od15 an15 od16 an16 od17 an17 od18 an18 od19 an19 od20 an20 : Option Addr} {sl1 sl3 sl4 sl5 sl6 sl7 sl8 sl9 sl11 sl12 sl13 sl14 sl15 sl16 sl17 sl18 sl19 sl20 : Array (Option Value)}
    {oc1 kV1 dc1 pm1 cd1 ct1 oc3 kV3 dc3 pm3 cd3 ct3 oc4 kV4 dc4 pm4 cd4 ct4 oc5 kV5 dc5 pm5 cd5 ct5 oc6 kV6 dc6 pm6 cd6 ct6 oc7 kV7 dc7 pm7 cd7 ct7 oc8 kV8 dc8 pm8 cd8 ct8 oc9 kV9 dc9 pm9 cd9 ct9 oc11 kV11 dc11 pm11 cd11 ct11 oc12 kV12 dc12 pm12 cd12 ct12 oc13 kV13 dc13 pm13 cd13 ct13 oc14 kV14 dc14 pm14 cd14 ct14 oc15 kV15 dc15 pm15 cd15 ct15 oc16 kV16 dc16 pm16 cd16 ct16 oc17 kV17 dc17 pm17 cd17 ct17 oc18 kV18 dc18 pm18 cd18 ct18 oc19 kV19 dc19 pm19 cd19 ct19 oc20 kV20 dc20 pm20 cd20 ct20 : Value}
    (a1 : PySem.W.nsIn K mainGlobals "turning" = some (some (.ref f1))) (l1 : K.lookup f1 = some ⟨oc1, od1, .func (PySem.W.fnOf "turning" "turning" (defArgs sTurning) (defBody sTurning) (defScope sTurning) .none kV1 dc1 pm1 an1 cd1 ct1), sl1⟩) (c1 : PySem.W.codeIn K cd1 "turning" = true) (k1 : PySem.W.keepIn K (.ref f1) = true)
    (a3 : PySem.W.nsIn K mainGlobals "_law_tape" = some (some (.ref f3))) (l3 : K.lookup f3 = some ⟨oc3, od3, .func (PySem.W.fnOf "_law_tape" "_law_tape" (defArgs sTape) (defBody sTape) (defScope sTape) .none kV3 dc3 pm3 an3 cd3 ct3), sl3⟩) (c3 : PySem.W.codeIn K cd3 "_law_tape" = true) (k3 : PySem.W.keepIn K (.ref f3) = true)
    (a4 : PySem.W.nsIn K mainGlobals "_law_draw" = some (some (.ref f4))) (l4 : K.lookup f4 = some ⟨oc4, od4, .func (PySem.W.fnOf "_law_draw" "_law_draw" (defArgs sDraw) (defBody sDraw) (defScope sDraw) .none kV4 dc4 pm4 an4 cd4 ct4), sl4⟩) (c4 : PySem.W.codeIn K cd4 "_law_draw" = true) (k4 : PySem.W.keepIn K (.ref f4) = true)
    (a5 : PySem.W.nsIn K mainGlobals "_law_pairs_by" = some (some (.ref f5))) (l5 : K.lookup f5 = some ⟨oc5, od5, .func (PySem.W.fnOf "_law_pairs_by" "_law_pairs_by" (defArgs sPairs) (defBody sPairs) (defScope sPairs) .none kV5 dc5 pm5 an5 cd5 ct5), sl5⟩) (c5 : PySem.W.codeIn K cd5 "_law_pairs_by" = true) (k5 : PySem.W.keepIn K (.ref f5) = true)
    (a6 : PySem.W.nsIn K mainGlobals "_law_web" = some (some (.ref f6))) (l6 : K.lookup f6 = some ⟨oc6, od6, .func (PySem.W.fnOf "_law_web" "_law_web" (defArgs sWeb) (defBody sWeb) (defScope sWeb) .none kV6 dc6 pm6 an6 cd6 ct6), sl6⟩) (c6 : PySem.W.codeIn K cd6 "_law_web" = true) (k6 : PySem.W.keepIn K (.ref f6) = true)
    (a7 : PySem.W.nsIn K mainGlobals "_law_meet" = some (some (.ref f7))) (l7 : K.lookup f7 = some ⟨oc7, od7, .func (PySem.W.fnOf "_law_meet" "_law_meet" (defArgs sMeet) (defBody sMeet) (defScope sMeet) .none kV7 dc7 pm7 an7 cd7 ct7), sl7⟩) (c7 : PySem.W.codeIn K cd7 "_law_meet" = true) (k7 : PySem.W.keepIn K (.ref f7) = true)
    (a8 : PySem.W.nsIn K mainGlobals "_law_hueing" = some (some (.ref f8))) (l8 : K.lookup f8 = some ⟨oc8, od8, .func (PySem.W.fnOf "_law_hueing" "_law_hueing" (defArgs sHueing) (defBody sHueing) (defScope sHueing) .none kV8 dc8 pm8 an8 cd8 ct8), sl8⟩) (c8 : PySem.W.codeIn K cd8 "_law_hueing" = true) (k8 : PySem.W.keepIn K (.ref f8) = true)
    (a9 : PySem.W.nsIn K mainGlobals "_law_is_hueing" = some (some (.ref f9))) (l9 : K.lookup f9 = some ⟨oc9, od9, .func (PySem.W.fnOf "_law_is_hueing" "_law_is_hueing" (defArgs sIsHu) (defBody sIsHu) (defScope sIsHu) .none kV9 dc9 pm9 an9 cd9 ct9), sl9⟩) (c9 : PySem.W.codeIn K cd9 "_law_is_hueing" = true) (k9 : PySem.W.keepIn K (.ref f9) = true)
    (a11 : PySem.W.nsIn K mainGlobals "_law_hues" = some (some (.ref f11))) (l11 : K.lookup f11 = some ⟨oc11, od11, .func (PySem.W.fnOf "_law_hues" "_law_hues" (defArgs sHues) (defBody sHues) (defScope sHues) .none kV11 dc11 pm11 an11 cd11 ct11), sl11⟩) (c11 : PySem.W.codeIn K cd11 "_law_hues" = true) (k11 : PySem.W.keepIn K (.ref f11) = true)
    (a12 : PySem.W.nsIn K mainGlobals "_law_stepped" = some (some (.ref f12))) (l12 : K.lookup f12 = some ⟨oc12, od12, .func (PySem.W.fnOf "_law_stepped" "_law_stepped" (defArgs sStepped) (defBody sStepped) (defScope sStepped) .none kV12 dc12 pm12 an12 cd12 ct12), sl12⟩) (c12 : PySem.W.codeIn K cd12 "_law_stepped" = true) (k12 : PySem.W.keepIn K (.ref f12) = true)
    (a13 : PySem.W.nsIn K mainGlobals "_law_same" = some (some (.ref f13))) (l13 : K.lookup f13 = some ⟨oc13, od13, .func (PySem.W.fnOf "_law_same" "_law_same" (defArgs sSame) (defBody sSame) (defScope sSame) .none kV13 dc13 pm13 an13 cd13 ct13), sl13⟩) (c13 : PySem.W.codeIn K cd13 "_law_same" = true) (k13 : PySem.W.keepIn K (.ref f13) = true)
    (a14 : PySem.W.nsIn K mainGlobals "_law_case" = some (some (.ref f14))) (l14 : K.lookup f14 = some ⟨oc14, od14, .func (PySem.W.fnOf "_law_case" "_law_case" (defArgs sCase) (defBody sCase) (defScope sCase) .none kV14 dc14 pm14 an14 cd14 ct14), sl14⟩) (c14 : PySem.W.codeIn K cd14 "_law_case" = true) (k14 : PySem.W.keepIn K (.ref f14) = true)
    (a15 : PySem.W.nsIn K mainGlobals "_law_far" = some (some (.ref f15))) (l15 : K.lookup f15 = some ⟨oc15, od15, .func (PySem.W.fnOf "_law_far" "_law_far" (defArgs sFar) (defBody sFar) (defScope sFar) .none kV15 dc15 pm15 an15 cd15 ct15), sl15⟩) (c15 : PySem.W.codeIn K cd15 "_law_far" = true) (k15 : PySem.W.keepIn K (.ref f15) = true)
    (a16 : PySem.W.nsIn K mainGlobals "_law_fan" = some (some (.ref f16))) (l16 : K.lookup f16 = some ⟨oc16, od16, .func (PySem.W.fnOf "_law_fan" "_law_fan" (defArgs sFan) (defBody sFan) (defScope sFan) .none kV16 dc16 pm16 an16 cd16 ct16), sl16⟩) (c16 : PySem.W.codeIn K cd16 "_law_fan" = true) (k16 : PySem.W.keepIn K (.ref f16) = true)
    (a17 : PySem.W.nsIn K mainGlobals "_law_due" = some (some (.ref f17))) (l17 : K.lookup f17 = some ⟨oc17, od17, .func (PySem.W.fnOf "_law_due" "_law_due" (defArgs sDue) (defBody sDue) (defScope sDue) .none kV17 dc17 pm17 an17 cd17 ct17), sl17⟩) (c17 : PySem.W.codeIn K cd17 "_law_due" = true) (k17 : PySem.W.keepIn K (.ref f17) = true)
    (a18 : PySem.W.nsIn K mainGlobals "_law_lets" = some (some (.ref f18))) (l18 : K.lookup f18 = some ⟨oc18, od18, .func (PySem.W.fnOf "_law_lets" "_law_lets" (defArgs sLets) (defBody sLets) (defScope sLets) .none kV18 dc18 pm18 an18 cd18 ct18), sl18⟩) (c18 : PySem.W.codeIn K cd18 "_law_lets" = true) (k18 : PySem.W.keepIn K (.ref f18) = true)
    (a19 : PySem.W.nsIn K mainGlobals "_law_right" = some (some (.ref f19))) (l19 : K.lookup f19 = some ⟨oc19, od19, .func (PySem.W.fnOf "_law_right" "_law_right" (defArgs sRight) (defBody sRight) (defScope sRight) .none kV19 dc19 pm19 an19 cd19 ct19), sl19⟩) (c19 : PySem.W.codeIn K cd19 "_law_right" = true) (k19 : PySem.W.keepIn K (.ref f19) = true)
    (a20 : PySem.W.nsIn K mainGlobals "law" = some (some (.ref f20))) (l20 : K.lookup f20 = some ⟨oc20, od20, .func (PySem.W.fnOf "law" "law" (defArgs sLaw) (defBody sLaw) (defScope sLaw) .none kV20 dc20 pm20 an20 cd20 ct20), sl20⟩) (c20 : PySem.W.codeIn K cd20 "law" = true) (k20 : PySem.W.keepIn K (.ref f20) = true)
    (z1 : PySem.W.nsIn K mainGlobals "len" = some none)
    (z2 : PySem.W.nsIn K mainGlobals "abs" = some none)
    (z3 : PySem.W.nsIn K mainGlobals "int" = some none)
    (z4 : PySem.W.nsIn K mainGlobals "min" = some none)
    (z5 : PySem.W.nsIn K mainGlobals "max" = some none)
    (z6 : PySem.W.nsIn K mainGlobals "range" = some none)
    (z7 : PySem.W.nsIn K mainGlobals "tuple" = some none)
    (z8 : PySem.W.nsIn K mainGlobals "list" = some none)
    (z9 : PySem.W.nsIn K mainGlobals "enumerate" = some none)
    (z10 : PySem.W.nsIn K mainGlobals "zip" = some none)
    (z11 : PySem.W.nsIn K mainGlobals "isinstance" = some none)
    (z12 : PySem.W.nsIn K mainGlobals "all" = some none)
    (z13 : PySem.W.nsIn K mainGlobals "str" = some none)
    (z14 : PySem.W.nsIn K mainGlobals "bool" = some none)
    (y1 : PySem.W.nsIn K mainGlobals "sum" = some none)
    : ∃ fd : FuncData, (∀ (s : Shared) (v : Value), BindsTo s fd ⟨[v], []⟩ [("_law_script", v)]) ∧ ∀ base : Heap, K.In base → base.Ns mainGlobals mg → FnOk l.prog w K mg base CX0 6 fa fd ["_law_script"] (spLaw K) := by
  have e := hfa.symm.trans (PySem.W.mg_of X G a20)
  cases e
  have T : Txt K mg := ⟨PySem.W.mg_none_of X G z1, PySem.W.mg_none_of X G z2, PySem.W.mg_none_of X G z3, PySem.W.mg_none_of X G z4, PySem.W.mg_none_of X G z5, PySem.W.mg_none_of X G z6, PySem.W.mg_none_of X G z7, PySem.W.mg_none_of X G z8, PySem.W.mg_none_of X G z9, PySem.W.mg_none_of X G z10, PySem.W.mg_none_of X G z11, PySem.W.mg_none_of X G z12, PySem.W.mg_none_of X G z13, PySem.W.mg_none_of X G z14⟩
  have zu : mg "sum" = none := PySem.W.mg_none_of X G y1
  have F1 := fun_mk (st := sTurning) l1 c1 k1
  have F3 := fun_mk (st := sTape) l3 c3 k3
  have F4 := fun_mk (st := sDraw) l4 c4 k4
  have F5 := fun_mk (st := sPairs) l5 c5 k5
  have F6 := fun_mk (st := sWeb) l6 c6 k6
  have F7 := fun_mk (st := sMeet) l7 c7 k7
  have F8 := fun_mk (st := sHueing) l8 c8 k8
  have F9 := fun_mk (st := sIsHu) l9 c9 k9
  have F11 := fun_mk (st := sHues) l11 c11 k11
  have F12 := fun_mk (st := sStepped) l12 c12 k12
  have F13 := fun_mk (st := sSame) l13 c13 k13
  have F14 := fun_mk (st := sCase) l14 c14 k14
  have F15 := fun_mk (st := sFar) l15 c15 k15
  have F16 := fun_mk (st := sFan) l16 c16 k16
  have F17 := fun_mk (st := sDue) l17 c17 k17
  have F18 := fun_mk (st := sLets) l18 c18 k18
  have F19 := fun_mk (st := sRight) l19 c19 k19
  have F20 := fun_mk (st := sLaw) l20 c20 k20
  have b1 := F1.binds (ps := ["fan", "at", "hue"]) fun _ _ _ _ _ _ us hl => match us, hl with | [_, _, _], _ => rfl
  have b3 := F3.binds (ps := ["_law_script", "_law_k"]) fun _ _ _ _ _ _ us hl => match us, hl with | [_, _], _ => rfl
  have b4 := F4.binds (ps := ["_law_tape_here", "_law_many"]) fun _ _ _ _ _ _ us hl => match us, hl with | [_, _], _ => rfl
  have b5 := F5.binds (ps := ["_law_tape_here", "_law_great"]) fun _ _ _ _ _ _ us hl => match us, hl with | [_, _], _ => rfl
  have b6 := F6.binds (ps := ["_law_tape_here", "_law_great"]) fun _ _ _ _ _ _ us hl => match us, hl with | [_, _], _ => rfl
  have b7 := F7.binds (ps := ["_law_web_here", "_law_one", "_law_other"]) fun _ _ _ _ _ _ us hl => match us, hl with | [_, _, _], _ => rfl
  have b8 := F8.binds (ps := ["_law_tape_here", "_law_web_here", "_law_bare"]) fun _ _ _ _ _ _ us hl => match us, hl with | [_, _, _], _ => rfl
  have b9 := F9.binds (ps := ["_law_web_here", "_law_row_here"]) fun _ _ _ _ _ _ us hl => match us, hl with | [_, _], _ => rfl
  have b11 := F11.binds (ps := ["_law_web_here", "_law_hueing_here", "_law_place"]) fun _ _ _ _ _ _ us hl => match us, hl with | [_, _, _], _ => rfl
  have b12 := F12.binds (ps := ["_law_web_here", "_law_hueing_here", "_law_step"]) fun _ _ _ _ _ _ us hl => match us, hl with | [_, _, _], _ => rfl
  have b13 := F13.binds (ps := ["_law_found", "_law_due_here"]) fun _ _ _ _ _ _ us hl => match us, hl with | [_, _], _ => rfl
  have b14 := F14.binds (ps := ["_law_tape_here", "_law_bare"]) fun _ _ _ _ _ _ us hl => match us, hl with | [_, _], _ => rfl
  have b15 := F15.binds (ps := ["_law_web_here", "_law_tie", "_law_place"]) fun _ _ _ _ _ _ us hl => match us, hl with | [_, _, _], _ => rfl
  have b16 := F16.binds (ps := ["_law_web_here", "_law_hueing_here", "_law_tie", "_law_place", "_law_hues_here"]) fun _ _ _ _ _ _ us hl => match us, hl with | [_, _, _, _, _], _ => rfl
  have b17 := F17.binds (ps := ["_law_fan_here", "_law_at", "_law_hue"]) fun _ _ _ _ _ _ us hl => match us, hl with | [_, _, _], _ => rfl
  have b18 := F18.binds (ps := ["_law_web_here", "_law_hueing_here", "_law_steps"]) fun _ _ _ _ _ _ us hl => match us, hl with | [_, _, _], _ => rfl
  have b19 := F19.binds (ps := ["_law_tape_here", "_law_web_here", "_law_hueing_here", "_law_fan_here", "_law_place"]) fun _ _ _ _ _ _ us hl => match us, hl with | [_, _, _, _, _], _ => rfl
  refine ⟨PySem.W.fnOf "law" "law" (defArgs sLaw) (defBody sLaw) (defScope sLaw) .none kV20 dc20 pm20 an20 cd20 ct20, fun s v => .of_eq rfl, fun base _ _ => ?_⟩
  have CT : Callee l.prog w K mg base 1 "_law_tape" ["_law_script", "_law_k"] (spTape K) := ⟨_, _, ok_tape F3 T, PySem.W.mg_of X G a3, k3, b3⟩
  have CD : Callee l.prog w K mg base 1 "_law_draw" ["_law_tape_here", "_law_many"] spDraw := ⟨_, _, ok_draw F4 T, PySem.W.mg_of X G a4, k4, b4⟩
  have CP : Callee l.prog w K mg base 2 "_law_pairs_by" ["_law_tape_here", "_law_great"] spPairs := ⟨_, _, ok_pairs F5 T CD, PySem.W.mg_of X G a5, k5, b5⟩
  have CW : Callee l.prog w K mg base 3 "_law_web" ["_law_tape_here", "_law_great"] spWeb := ⟨_, _, ok_web F6 T CD CP, PySem.W.mg_of X G a6, k6, b6⟩
  have CM : Callee l.prog w K mg base 1 "_law_meet" ["_law_web_here", "_law_one", "_law_other"] spMeetE := ⟨_, _, ok_meetE F7, PySem.W.mg_of X G a7, k7, b7⟩
  have CH : Callee l.prog w K mg base 2 "_law_hueing" ["_law_tape_here", "_law_web_here", "_law_bare"] spHueP := ⟨_, _, ok_hueing F8 T CD CM, PySem.W.mg_of X G a8, k8, b8⟩
  have CTu : Callee l.prog w K mg base 1 "turning" ["fan", "at", "hue"] spTurning := ⟨_, _, ok_turning F1 T, PySem.W.mg_of X G a1, k1, b1⟩
  have CU : Callee l.prog w K mg base 1 "_law_due" ["_law_fan_here", "_law_at", "_law_hue"] spTurning := ⟨_, _, ok_due F17 T, PySem.W.mg_of X G a17, k17, b17⟩
  have CI : Callee l.prog w K mg base 2 "_law_is_hueing" ["_law_web_here", "_law_row_here"] spIsHu := ⟨_, _, ok_isHu F9 T CM, PySem.W.mg_of X G a9, k9, b9⟩
  have CSt : Callee l.prog w K mg base 3 "_law_stepped" ["_law_web_here", "_law_hueing_here", "_law_step"] spStepped := ⟨_, _, ok_stepped F12 T CM CI, PySem.W.mg_of X G a12, k12, b12⟩
  have CHu : Callee l.prog w K mg base 1 "_law_hues" ["_law_web_here", "_law_hueing_here", "_law_place"] spHues := ⟨_, _, ok_hues F11 T, PySem.W.mg_of X G a11, k11, b11⟩
  have CF : Callee l.prog w K mg base 1 "_law_far" ["_law_web_here", "_law_tie", "_law_place"] spFar := ⟨_, _, ok_far F15 zu, PySem.W.mg_of X G a15, k15, b15⟩
  have CFn : Callee l.prog w K mg base 2 "_law_fan" ["_law_web_here", "_law_hueing_here", "_law_tie", "_law_place", "_law_hues_here"] spFan := ⟨_, _, ok_fan F16 T CHu CF, PySem.W.mg_of X G a16, k16, b16⟩
  have CS : Callee l.prog w K mg base 3 "_law_same" ["_law_found", "_law_due_here"] (spSameR (Al 2)) := ⟨_, _, ok_sameA 2 F13 T (PySem.W.mg_of X G a13) k13 b13, PySem.W.mg_of X G a13, k13, b13⟩
  have CL : Callee l.prog w K mg base 4 "_law_lets" ["_law_web_here", "_law_hueing_here", "_law_steps"] spLets := ⟨_, _, ok_lets F18 T CSt, PySem.W.mg_of X G a18, k18, b18⟩
  have CR : Callee l.prog w K mg base 5 "_law_right" ["_law_tape_here", "_law_web_here", "_law_hueing_here", "_law_fan_here", "_law_place"] spRight := ⟨_, _, ok_right F19 T CD CHu CF CTu CU CS CL, PySem.W.mg_of X G a19, k19, b19⟩
  have CC : Callee l.prog w K mg base 4 "_law_case" ["_law_tape_here", "_law_bare"] spCase := ⟨_, _, ok_case F14 CD CW CH, PySem.W.mg_of X G a14, k14, b14⟩
  exact ok_law F20 T CT CC CFn CR
theorem walkL {l : PySem.W.OpenLaw} {q : Program} {loose : List Str} {XP : (Str → Option Value) → Heap → Prop} {YP : World → Heap → Prop} {d : DefRec} {K : Params → PySem.W.Frag} (hn : l.most = some 63) (hdf : d.params.defaults = [])
    (hY : ∀ (w : World) (h : Heap), YP w h → (K w.params).In h)
    (F : ∀ (w : World) (mg : Str → Option Value) (fa : Addr) (h : Heap), (K w.params).In h → h.Ns mainGlobals mg → mg d.name = some (.ref fa) →
      ∃ fd : FuncData, (∀ (s : Shared) (u : Value), BindsTo s fd ⟨[u], []⟩ [("_law_script", u)]) ∧ ∀ base : Heap, (K w.params).In base → base.Ns mainGlobals mg → FnOk l.prog w (K w.params) mg base CX0 6 fa fd ["_law_script"] (spLaw (K w.params))) :
    PySem.W.WalkO q loose XP YP l.row.toRowW d [] (fun f vs => PySem.call f vs) :=
  L2.walk_of (n := 63) (k := 6) (x := "_law_script") (CX := fun _ => CX0) (sp := fun w => spLaw (K w.params)) hn (by decide) hdf ⟨rfl, by decide, by decide, rfl⟩ hY F (fun _ _ a ns hl _ hS => ⟨a, ns, rfl, hS, hl, fun _ => rfl⟩) fun _ _ _ _ _ z => z
end Hue
open PySem PySem.W PyProof.Rows
set_option maxRecDepth 100000 in
set_option maxHeartbeats 0 in
theorem PySem.Challenge.cw_huedties_k20_fans_turned_holds : PySem.Challenge.rw_huedties_k20_fans_turned.Holds := by
  w_on; o_law; k_head; (case hw => w_witness2)
  k_fill
  refine Hue.walkL (l := PySem.Challenge.rw_huedties_k20_fans_turned) rfl rfl (fun w h Y => PySem.W.kIn_of Y) ?F
  case F =>
    intro w mg fa h KX G hmg
    refine' Hue.all_mk KX G hmg ?a1 ?l1 ?c1 ?k1 ?a3 ?l3 ?c3 ?k3 ?a4 ?l4 ?c4 ?k4 ?a5 ?l5 ?c5 ?k5 ?a6 ?l6 ?c6 ?k6 ?a7 ?l7 ?c7 ?k7 ?a8 ?l8 ?c8 ?k8 ?a9 ?l9 ?c9 ?k9 ?a11 ?l11 ?c11 ?k11 ?a12 ?l12 ?c12 ?k12 ?a13 ?l13 ?c13 ?k13 ?a14 ?l14 ?c14 ?k14 ?a15 ?l15 ?c15 ?k15 ?a16 ?l16 ?c16 ?k16 ?a17 ?l17 ?c17 ?k17 ?a18 ?l18 ?c18 ?k18 ?a19 ?l19 ?c19 ?k19 ?a20 ?l20 ?c20 ?k20 ?z1 ?z2 ?z3 ?z4 ?z5 ?z6 ?z7 ?z8 ?z9 ?z10 ?z11 ?z12 ?z13 ?z14 ?y1
    (case a1 => k_is)
    (case l1 => k_is)
    (case c1 => k_is)
    (case k1 => k_is)
    (case a3 => k_is)
    (case l3 => k_is)
    (case c3 => k_is)
    (case k3 => k_is)
    (case a4 => k_is)
    (case l4 => k_is)
    (case c4 => k_is)
    (case k4 => k_is)
    (case a5 => k_is)
    (case l5 => k_is)
    (case c5 => k_is)
    (case k5 => k_is)
    (case a6 => k_is)
    (case l6 => k_is)
    (case c6 => k_is)
    (case k6 => k_is)
    (case a7 => k_is)
    (case l7 => k_is)
    (case c7 => k_is)
    (case k7 => k_is)
    (case a8 => k_is)
    (case l8 => k_is)
    (case c8 => k_is)
    (case k8 => k_is)
    (case a9 => k_is)
    (case l9 => k_is)
    (case c9 => k_is)
    (case k9 => k_is)
    (case a11 => k_is)
    (case l11 => k_is)
    (case c11 => k_is)
    (case k11 => k_is)
    (case a12 => k_is)
    (case l12 => k_is)
    (case c12 => k_is)
    (case k12 => k_is)
    (case a13 => k_is)
    (case l13 => k_is)
    (case c13 => k_is)
    (case k13 => k_is)
    (case a14 => k_is)
    (case l14 => k_is)
    (case c14 => k_is)
    (case k14 => k_is)
    (case a15 => k_is)
    (case l15 => k_is)
    (case c15 => k_is)
    (case k15 => k_is)
    (case a16 => k_is)
    (case l16 => k_is)
    (case c16 => k_is)
    (case k16 => k_is)
    (case a17 => k_is)
    (case l17 => k_is)
    (case c17 => k_is)
    (case k17 => k_is)
    (case a18 => k_is)
    (case l18 => k_is)
    (case c18 => k_is)
    (case k18 => k_is)
    (case a19 => k_is)
    (case l19 => k_is)
    (case c19 => k_is)
    (case k19 => k_is)
    (case a20 => k_is)
    (case l20 => k_is)
    (case c20 => k_is)
    (case k20 => k_is)
    (case z1 => k_is)
    (case z2 => k_is)
    (case z3 => k_is)
    (case z4 => k_is)
    (case z5 => k_is)
    (case z6 => k_is)
    (case z7 => k_is)
    (case z8 => k_is)
    (case z9 => k_is)
    (case z10 => k_is)
    (case z11 => k_is)
    (case z12 => k_is)
    (case z13 => k_is)
    (case z14 => k_is)
    (case y1 => k_is)
#print axioms PySem.Challenge.cw_huedties_k20_fans_turned_holds
