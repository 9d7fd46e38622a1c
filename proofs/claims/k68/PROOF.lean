import PyProof.Rows.All
import Wide.All
import OpenK.AllK
import Wide.FinOn
import Lean
import PyProof.EqAt
import PyProof.EqKinds
import PyProof.TupleCall
import PyProof.EnumMake
import PyProof.Draws
import PyProof.ZipIter
import PyProof.ConsumeWalk
import PyProof.NeKinds
import PyProof.ListRange
import PyProof.ReprRoads
import PyProof.ReprBulk
import PyProof.CallStr
import PyProof.Rows.SeqMore
import KE.KMinBuiltin
import PyProof.MinMaxWalk
import PyProof.DictRoadsH
import PyProof.Rows.SetFrom
import PyProof.SetRoads
import PyProof.Rows.SortShell
import PyProof.SumWalkG
import PyProof.Rows.SortShellK
import PyProof.Rows.SortWalk
import PyProof.WalksMore
import PyProof.FactsAll.subtypes_4
import PyProof.SetNew
import PyProof.Rows.SetObj
import KE.KRevSl
import PyProof.StationsW
import PyProof.ExcClass3
import KE.KDictOf
import PyProof.AttrMissHeap
import PySem.Challenge.RW_huedties_k68_cuts
import PyProof.FitsInt
set_option Elab.async false
set_option linter.all false
set_option maxRecDepth 100000
namespace L2
open PySem PySem.Spec PyProof.Rows
noncomputable abbrev Key := Sum Int Str
noncomputable def keyIs : Key → Value → Bool
  | .inl k, v => Value.isInt k v
  | .inr x, v => Value.isStrOf x v
noncomputable def keyH (w : World) : Key → Int
  | .inl k => hashInt k
  | .inr x => hashStr w x
theorem keyIs_shape : ∀ {k : Key} {v : Value}, keyIs k v = true → (∃ i t, k = Sum.inl i ∧ v = Value.int i t) ∨ (∃ x t, k = Sum.inr x ∧ v = Value.str x t)
  | .inl i, v, h => by
    obtain ⟨t, e⟩ := Value.isInt_shape (k := i) (v := v) h
    exact .inl ⟨i, t, rfl, e⟩
  | .inr x, v, h => by
    obtain ⟨t, e⟩ := Value.isStrOf_shape (x := x) (v := v) h
    exact .inr ⟨x, t, rfl, e⟩
theorem keyIs_int (i : Int) (t : Tok) : keyIs (.inl i) (.int i t) = true := by simp [keyIs, Value.isInt]
theorem keyIs_str (x : Str) (t : Tok) : keyIs (.inr x) (.str x t) = true := by simp [keyIs, Value.isStrOf]
theorem key_ll (a b : Int) : decide ((Sum.inl a : Key) = Sum.inl b) = (a == b) := by
  by_cases e : a = b
  · subst e; simp
  · have h : ¬ (Sum.inl a : Key) = Sum.inl b := fun q => e (Sum.inl.inj q)
    rw [decide_eq_false h]
    exact (beq_eq_false_iff_ne.mpr e).symm
theorem key_rr (a b : Str) : decide ((Sum.inr a : Key) = Sum.inr b) = decide (a = b) := by
  by_cases e : a = b
  · subst e; simp
  · have h : ¬ (Sum.inr a : Key) = Sum.inr b := fun q => e (Sum.inr.inj q)
    rw [decide_eq_false h, decide_eq_false e]
theorem key_lr (a : Int) (b : Str) : decide ((Sum.inl a : Key) = Sum.inr b) = false := decide_eq_false (fun q => nomatch q)
theorem key_rl (a : Str) (b : Int) : decide ((Sum.inr a : Key) = Sum.inl b) = false := decide_eq_false (fun q => nomatch q)
noncomputable def mixKind (prog : Program) (w : World) : PySem.KeyKind prog w Key where
  is := keyIs
  hash := keyH w
  inj := fun v a b ha hb => by
    rcases keyIs_shape ha with ⟨i, t, rfl, rfl⟩ | ⟨x, t, rfl, rfl⟩
    · rcases keyIs_shape hb with ⟨j, u, rfl, e⟩ | ⟨y, u, rfl, e⟩
      · injection e with e1 _; rw [e1]
      · exact nomatch e
    · rcases keyIs_shape hb with ⟨j, u, rfl, e⟩ | ⟨y, u, rfl, e⟩
      · exact nomatch e
      · injection e with e1 _; rw [e1]
  byValue := fun k v h => by
    rcases keyIs_shape h with ⟨i, t, rfl, rfl⟩ | ⟨x, t, rfl, rfl⟩ <;> rfl
  pyHash := fun hv h => by
    rcases keyIs_shape hv with ⟨i, t, rfl, rfl⟩ | ⟨x, t, rfl, rfl⟩
    · exact wpAny_pyHash_int h
    · exact wpAny_pyHash_str h
  eqBool := fun hu hv h => by
    rcases keyIs_shape hu with ⟨i, t, rfl, rfl⟩ | ⟨x, t, rfl, rfl⟩
    · rcases keyIs_shape hv with ⟨j, u, rfl, rfl⟩ | ⟨y, u, rfl, rfl⟩
      · rw [key_ll] at h; exact wpAny_eqBool_int h
      · rw [key_lr] at h; exact SeqAt.EqAt.int_str i t y u _ _ _ _ h
    · rcases keyIs_shape hv with ⟨j, u, rfl, rfl⟩ | ⟨y, u, rfl, rfl⟩
      · rw [key_rl] at h; exact SeqAt.EqAt.str_int x t j u _ _ _ _ h
      · rw [key_rr] at h; exact wpAny_eqBool_str h
  «strs» := fun k x t v h => by
    rcases keyIs_shape h with ⟨i, u, rfl, e⟩ | ⟨y, u, rfl, e⟩
    · exact nomatch e
    · injection e with e1 _
      subst e1
      cases v <;> rfl
theorem mixKind_is (prog : Program) (w : World) (k : Key) (v : Value) : (mixKind prog w).is k v = keyIs k v := rfl
theorem mixKind_int (prog : Program) (w : World) (i : Int) (t : Tok) : (mixKind prog w).is (.inl i) (.int i t) = true := keyIs_int i t
theorem mixKind_str (prog : Program) (w : World) (x : Str) (t : Tok) : (mixKind prog w).is (.inr x) (.str x t) = true := keyIs_str x t
end L2
namespace L2
open PySem PySem.Spec PyProof.Rows
inductive V where
  | non | bl (b : Bool) | int (i : Int) | str (x : Str) | byt (b : Array UInt8) | flt (b : UInt64) | ref (a : Addr) | ty (n : String)
  deriving DecidableEq
noncomputable def RelV : V → Value → Prop
  | .non, u => u = Value.none
  | .bl b, u => u = Value.bool b
  | .int i, u => ∃ t, u = Value.int i t
  | .str x, u => ∃ t, u = Value.str x t
  | .byt b, u => ∃ t, u = Value.bytes b t
  | .flt b, u => ∃ t, u = Value.float b t
  | .ref a, u => u = Value.ref a
  | .ty n, u => u = Value.type n
noncomputable abbrev Vals : List V → List Value → Prop := Paired RelV
theorem Vals.length {xs : List V} {us : List Value} (r : Vals xs us) : xs.length = us.length := Paired.length r
theorem Vals.get : ∀ {xs : List V} {us : List Value} {i : Nat} {x : V}, Vals xs us → xs[i]? = some x → ∃ u, us[i]? = some u ∧ RelV x u
  | _, _, _, _, .nil, e => by simp at e
  | _, _, 0, _, .cons r _, e => by simp at e; subst e; exact ⟨_, rfl, r⟩
  | _, _, i + 1, x, .cons _ t, e => by
    obtain ⟨u, h1, h2⟩ := Vals.get (i := i) (x := x) t (by simpa using e)
    exact ⟨u, by simpa using h1, h2⟩
theorem Vals.set {x : V} {u : Value} (r : RelV x u) : ∀ {xs : List V} {us : List Value} (i : Nat), Vals xs us → Vals (xs.set i x) (us.set i u)
  | _, _, _, .nil => .nil
  | _, _, 0, .cons _ t => .cons r t
  | _, _, i + 1, .cons q t => .cons q (Vals.set r i t)
theorem Vals.append : ∀ {xs ys : List V} {us ws : List Value}, Vals xs us → Vals ys ws → Vals (xs ++ ys) (us ++ ws)
  | _, _, _, _, .nil, s => s
  | _, _, _, _, .cons r t, s => .cons r (Vals.append t s)
theorem Vals.take : ∀ {xs : List V} {us : List Value} (n : Nat), Vals xs us → Vals (xs.take n) (us.take n)
  | _, _, 0, _ => .nil
  | _, _, _ + 1, .nil => .nil
  | _, _, n + 1, .cons r t => .cons r (Vals.take n t)
theorem Vals.drop : ∀ {xs : List V} {us : List Value} (n : Nat), Vals xs us → Vals (xs.drop n) (us.drop n)
  | _, _, 0, r => r
  | _, _, _ + 1, .nil => .nil
  | _, _, n + 1, .cons _ t => Vals.drop n t
noncomputable def RelO : Option V → Option Value → Prop
  | some v, some u => RelV v u
  | none, none => True
  | _, _ => False
noncomputable def KV {κ : Type} : List (κ × V) → List (κ × Value) → Prop := Paired fun (p : κ × V) (q : κ × Value) => p.1 = q.1 ∧ RelV p.2 q.2
noncomputable def kV : Key → V
  | .inl i => .int i
  | .inr x => .str x
inductive HO where
  /-- a list -/
  | lst (xs : List V)
  /-- a tuple (never changes) -/
  | tup (xs : List V)
  /-- a dict whose keys are ints and texts; one whose keys are tuples of ints and texts (the empty one is both) -/
  | dK (kvs : List (Key × V)) | dT (kvs : List (List Key × V))
  /-- a set of ints: its members, its size -/
  | set (S : Int → Bool) (n : Nat)
  /-- an instance of the class at C, its dict at dx, its attributes -/
  | ins (C dx : Addr) (fs : List (Str × V))
  /-- the dict of the instance at x -/
  | own (x : Addr)
  /-- the dict of an exception -/
  | xd (fs : List (Str × V))
  /-- a bound method, f of x -/
  | met (f x : Addr)
  /-- a range object lo, lo + 1, .. below hi -/
  | rng (lo hi : Int)
  /-- a thing that is known to the object (the script; a dict while a loop walks it): read, never written while it is so -/
  | frz (o : Obj) (u : HO)
  /-- a code object's table -/
  | tbl (ps : Array Value)
  /-- any other thing, by what is true of its one object (a def of one's own: SetO a S n := HO.ext fun h => ..) -/
  | ext (φ : Heap → Prop)
noncomputable abbrev Hp := Addr → Option HO
noncomputable def upd (H : Hp) (a : Addr) (o : HO) : Hp := fun b => if b = a then some o else H b
theorem upd_same {H : Hp} {a : Addr} {o : HO} : upd H a o a = some o := by unfold upd; rw [if_pos rfl]
theorem upd_ne {H : Hp} {a b : Addr} {o : HO} (h : b ≠ a) : upd H a o b = H b := by unfold upd; rw [if_neg h]
theorem ne_of {H : Hp} {a b : Addr} {o u : HO} (h : H a = some o) (h' : H b = some u) (d : o ≠ u) : a ≠ b := by
  intro e; subst e; rw [h] at h'; exact d (Option.some.inj h')
theorem ne_of_none {H : Hp} {a b : Addr} {o : HO} (h : H a = some o) (h' : H b = none) : a ≠ b := by
  intro e; subst e; rw [h] at h'; cases h'
section
variable (P : Program) (w : World)
noncomputable def ObjOk (H : Hp) (h : Heap) (a : Addr) : HO → Prop
  | .lst xs => xs.length ≤ sizeLine ∧ ∃ (its : List Value) (n : Nat), Vals xs its ∧ h.get? a = some { cls := .type "list", data := .seq its.toArray n }
  | .tup xs => xs.length ≤ sizeLine ∧ ∃ its : List Value, Vals xs its ∧ IsTup h a its.toArray
  | .dK kvs => kvs.length ≤ sizeLine ∧ (a == sysModules) = false ∧ ∃ vs, KV kvs vs ∧ h.DictOf (mixKind P w) a vs
  | .dT kvs => kvs.length ≤ sizeLine ∧ (a == sysModules) = false ∧ ∃ xs : List (List Key × Addr × Value),
      Paired (fun (p : List Key × V) (q : List Key × Addr × Value) => p.1 = q.1 ∧ H q.2.1 = some (.tup (p.1.map kV)) ∧ RelV p.2 q.2.2) kvs xs ∧
      ∃ o es ep, h.get? a = some o ∧ o.ExactDict ∧ o.data = .dict es ep ∧ es.toList = xs.map (entryOfKey (tupleKind (mixKind P w))) ∧ (xs.map (·.1)).Nodup
  | .set S n => h.SetOf (intKind P w) a S n
  | .ins C dx fs => H dx = some (.own a) ∧ fs.length ≤ 1000 ∧ dx ≠ a ∧ h.get? a = some (PySem.W.instObj C dx) ∧
      ∃ mA, h.Ns1 dx mA ∧ (∀ f, RelO (fs.lookup f) (mA f)) ∧ PySem.Within mA (fs.map (·.1))
  | .own _ => ∃ o, h.get? a = some o
  | .xd fs => ∃ mA, h.Ns1 a mA ∧ ∀ f, RelO (fs.lookup f) (mA f)
  | .rng lo hi => ∃ t u v, h.get? a = some { cls := .type "range", data := .fields #[.int lo t, .int hi u, .int 1 v] }
  | .frz o u => h.get? a = some o ∧ ObjOk H h a u
  | .tbl ps => h.get? a = some { cls := .none, data := .fields ps }
  | .met f x => h.get? a = some (PySem.W.methodObj (.ref f) (.ref x))
  | .ext φ => φ h ∧ (∃ o, h.get? a = some o) ∧ ∀ h1 h2 : Heap, φ h1 → (∀ o, h1.get? a = some o → h2.get? a = some o) → φ h2
noncomputable def HOk (H : Hp) (h : Heap) : Prop := ∀ a o, H a = some o → ObjOk P w H h a o
end
section
variable {P : Program} {w : World} {H H' : Hp} {h h' : Heap} {a : Addr} {o : HO}
theorem ObjOk.lt (x : ObjOk P w H h a o) : a < h.objs.size := by
  cases o with
  | lst xs => obtain ⟨_, _, _, _, e⟩ := x; exact Heap.lt_size e
  | tup xs => obtain ⟨_, _, _, p⟩ := x; exact p.lt
  | dK kvs => obtain ⟨_, _, _, _, o, _, _, e, _⟩ := x; exact Heap.lt_size e
  | dT kvs => obtain ⟨_, _, _, _, o, _, _, e, _⟩ := x; exact Heap.lt_size e
  | set S n => obtain ⟨o, _, _, _, e, _⟩ := x; exact Heap.lt_size e
  | ins C dx fs => obtain ⟨_, _, _, e, _⟩ := x; exact Heap.lt_size e
  | own y => obtain ⟨_, e⟩ := x; exact Heap.lt_size e
  | xd fs => obtain ⟨_, ⟨_, _, _, e, _⟩, _⟩ := x; exact Heap.lt_size e
  | rng lo hi => obtain ⟨_, _, _, e⟩ := x; exact Heap.lt_size e
  | frz ob u => obtain ⟨e, _⟩ := x; exact Heap.lt_size e
  | tbl ps => exact Heap.lt_size (show h.get? a = some _ from x)
  | met f y => exact Heap.lt_size (show h.get? a = some _ from x)
  | ext φ => obtain ⟨_, ⟨_, e⟩, _⟩ := x; exact Heap.lt_size e
theorem Paired.mapP {α β : Type} {F G : α → β → Prop} : ∀ {l₁ : List α} {l₂ : List β}, Paired F l₁ l₂ → (∀ a b, F a b → G a b) → Paired G l₁ l₂
  | _, _, .nil, _ => .nil
  | _, _, .cons r t, f => .cons (f _ _ r) (Paired.mapP t f)
theorem ObjOk.stay (x : ObjOk P w H h a o) (k : ∀ b u, (b = a ∨ H b = some (.own a)) → h.get? b = some u → h'.get? b = some u)
    (ho : ∀ b, H b = some (.own a) → H' b = some (.own a)) (ht : ∀ b xs, H b = some (.tup xs) → H' b = some (.tup xs)) : ObjOk P w H' h' a o := by
  induction o with
  | lst xs => obtain ⟨z, its, n, r, e⟩ := x; exact ⟨z, its, n, r, k _ _ (.inl rfl) e⟩
  | tup xs => obtain ⟨z, its, r, ob, e, c⟩ := x; exact ⟨z, its, r, ob, k _ _ (.inl rfl) e, c⟩
  | dK kvs => obtain ⟨z, y, vs, r, ob, es, ep, e, c⟩ := x; exact ⟨z, y, vs, r, ob, es, ep, k _ _ (.inl rfl) e, c⟩
  | dT kvs =>
    obtain ⟨z, y, xs, r, ob, es, ep, e, c⟩ := x
    exact ⟨z, y, xs, Paired.mapP r fun p q z => ⟨z.1, ht _ _ z.2.1, z.2.2⟩, ob, es, ep, k _ _ (.inl rfl) e, c⟩
  | set S n => obtain ⟨ob, es, ep, t, e, c⟩ := x; exact ⟨ob, es, ep, t, k _ _ (.inl rfl) e, c⟩
  | ins C dx fs =>
    obtain ⟨d, z, ne, e, mA, ⟨od, es, ep, e2, c⟩, r⟩ := x
    exact ⟨ho _ d, z, ne, k _ _ (.inl rfl) e, mA, ⟨od, es, ep, k _ _ (.inr d) e2, c⟩, r⟩
  | own y => obtain ⟨ob, e⟩ := x; exact ⟨ob, k _ _ (.inl rfl) e⟩
  | xd fs => obtain ⟨mA, ⟨od, es, ep, e, c⟩, r⟩ := x; exact ⟨mA, ⟨od, es, ep, k _ _ (.inl rfl) e, c⟩, r⟩
  | rng lo hi => obtain ⟨t, u, v, e⟩ := x; exact ⟨t, u, v, k _ _ (.inl rfl) e⟩
  | frz ob u ih => obtain ⟨e, q⟩ := x; exact ⟨k _ _ (.inl rfl) e, ih q⟩
  | tbl ps =>
    have e : h.get? a = some { cls := .none, data := .fields ps } := x
    show h'.get? a = some { cls := .none, data := .fields ps }
    exact k a _ (.inl rfl) e
  | met f y =>
    have e : h.get? a = some (PySem.W.methodObj (.ref f) (.ref y)) := x
    show h'.get? a = some (PySem.W.methodObj (.ref f) (.ref y))
    exact k a _ (.inl rfl) e
  | ext φ => obtain ⟨p, ⟨o, e⟩, st⟩ := x; exact ⟨st _ _ p fun o q => k _ _ (.inl rfl) q, ⟨o, k _ _ (.inl rfl) e⟩, st⟩
theorem HOk.lt (x : HOk P w H h) (e : H a = some o) : a < h.objs.size := (x a o e).lt
theorem HOk.fresh (x : HOk P w H h) (e : h.objs.size ≤ a) : H a = none := by
  cases q : H a with
  | none => rfl
  | some u => exact absurd (Nat.lt_of_lt_of_le (x.lt q) e) (Nat.lt_irrefl _)
theorem HOk.kept (x : HOk P w H h) (k : ∀ b u, h.get? b = some u → h'.get? b = some u) : HOk P w H h' := fun a o e =>
  (x a o e).stay (fun b u _ q => k b u q) (fun _ q => q) fun _ _ q => q
theorem HOk.laid (x : HOk P w H h) (k : ∀ b u, h.get? b = some u → h'.get? b = some u) (hp : h.objs.size ≤ a) (new : ObjOk P w (upd H a o) h' a o) : HOk P w (upd H a o) h' := fun b u e => by
  have hn := x.fresh hp
  by_cases hb : b = a
  · subst hb; rw [upd_same] at e; cases e; exact new
  · rw [upd_ne hb] at e
    exact (x b u e).stay (fun c v _ q => k c v q) (fun c q => by rw [upd_ne (ne_of_none q hn)]; exact q) fun c xs q => by rw [upd_ne (ne_of_none q hn)]; exact q
end
noncomputable def Rd (H : Hp) (a : Addr) (u : HO) : Prop := H a = some u ∨ ∃ o, H a = some (.frz o u)
theorem Rd.ok {P : Program} {w : World} {H : Hp} {h : Heap} {a : Addr} {u : HO} (r : Rd H a u) (x : HOk P w H h) : ObjOk P w H h a u := by
  rcases r with r | ⟨o, r⟩
  · exact x a u r
  · obtain ⟨_, q⟩ := x a _ r
    exact q
noncomputable def Mut : Option HO → Prop
  | some (.lst _) => True
  | some (.dK _) => True
  | some (.dT _) => True
  | some (.set _ _) => True
  | some (.ins _ _ _) => True
  | some (.ext _) => True
  | _ => False
section
variable {P : Program} {w : World} {H : Hp} {h h' : Heap} {x e : Addr} {o' : HO}
theorem HOk.write (ok : HOk P w H h) (mu : Mut (H x)) (he : e = x ∨ H e = some (.own x)) (k : ∀ b u, b ≠ e → h.get? b = some u → h'.get? b = some u) (heo : ∃ u, h'.get? e = some u)
    (new : ObjOk P w (upd H x o') h' x o') : HOk P w (upd H x o') h' := fun b u q => by
  have nown : ∀ c y, H c = some (.own y) → c ≠ x := fun c y r z => by subst z; rw [r] at mu; exact mu
  have ntup : ∀ c xs, H c = some (.tup xs) → c ≠ x := fun c xs r z => by subst z; rw [r] at mu; exact mu
  by_cases hb : b = x
  · subst hb; rw [upd_same] at q; cases q; exact new
  · rw [upd_ne hb] at q
    by_cases hbe : b = e
    · have q' : H b = some (.own x) := by
        rcases he with z | z
        · exact absurd (hbe.trans z) hb
        · rw [hbe]; exact z
      rw [q] at q'; cases q'
      obtain ⟨v, hv⟩ := heo
      exact ⟨v, by rw [hbe]; exact hv⟩
    · refine (ok b u q).stay (fun c v hc r => k c v ?_ r) (fun c r => by rw [upd_ne (nown c b r)]; exact r) fun c xs r => by rw [upd_ne (ntup c xs r)]; exact r
      rcases hc with rfl | hc
      · exact hbe
      · rintro rfl
        rcases he with z | z
        · exact nown c b hc z
        · rw [hc] at z; cases z; exact hb rfl
end
structure Un (fs ex : List Addr) (H H' : Hp) (h h' : Heap) : Prop where
  keep : ∀ b o, h.get? b = some o → H b = none → b ∉ fs → b ∉ ex → h'.get? b = some o
  slot : ∀ b o, h.get? b = some o → H b = none → b ∈ fs → b ∉ ex → ∃ sl, h'.get? b = some { o with slots := sl }
  free : ∀ b o, h.get? b = some o → H b = none → b ∉ ex → H' b = none
  there : ∀ b o, h.get? b = some o → b ∉ ex → ∃ o', h'.get? b = some o'
  tups : ∀ b xs, H b = some (.tup xs) → H' b = some (.tup xs)
  frzs : ∀ b o u, H b = some (.frz o (.lst u)) → H' b = some (.frz o (.lst u))
  tbls : ∀ b ps, H b = some (.tbl ps) → ∃ more, H' b = some (.tbl (ps ++ more))
section
variable {fs fs' ex ex' : List Addr} {H H1 H2 : Hp} {h h1 h2 h' : Heap} {a x e : Addr} {o : HO}
theorem Un.any (u : Un fs ex H H1 h h1) {b : Addr} {ob : Obj} (q : h.get? b = some ob) (n : H b = none) (hx : b ∉ ex) : ∃ sl, h1.get? b = some { ob with slots := sl } := by
  by_cases hb : b ∈ fs
  · exact u.slot b ob q n hb hx
  · exact ⟨ob.slots, u.keep b ob q n hb hx⟩
theorem Un.kept (k : ∀ b u, h.get? b = some u → h'.get? b = some u) : Un fs ex H H h h' :=
  ⟨fun b ob q _ _ _ => k b ob q, fun b ob q _ _ _ => ⟨ob.slots, k b ob q⟩, fun _ _ _ n _ => n, fun b ob q _ => ⟨ob, k b ob q⟩, fun _ _ q => q, fun _ _ _ q => q, fun _ ps q => ⟨#[], by rw [q]; simp⟩⟩
theorem Un.refl : Un fs ex H H h h := Un.kept fun _ _ q => q
theorem Un.laid (k : ∀ b u, h.get? b = some u → h'.get? b = some u) (hp : h.objs.size ≤ a) (hn : H a = none) : Un fs ex H (upd H a o) h h' where
  keep := fun b u q _ _ _ => k b u q
  slot := fun b u q _ _ _ => ⟨u.slots, k b u q⟩
  free := fun b u q n _ => by rw [upd_ne (Nat.ne_of_lt (Nat.lt_of_lt_of_le (Heap.lt_size q) hp))]; exact n
  there := fun b u q _ => ⟨u, k b u q⟩
  tups := fun b xs q => by rw [upd_ne (ne_of_none q hn)]; exact q
  frzs := fun b u xs q => by rw [upd_ne (ne_of_none q hn)]; exact q
  tbls := fun b ps q => ⟨#[], by rw [upd_ne (ne_of_none q hn), q]; simp⟩
theorem Un.write (mu : Mut (H x)) (he : e = x ∨ H e = some (.own x)) (k : ∀ b u, b ≠ e → h.get? b = some u → h'.get? b = some u) (heo : ∃ u, h'.get? e = some u) : Un fs ex H (upd H x o) h h' := by
  have hx : ∀ b, H b = none → b ≠ x := fun b n z => by subst z; rw [n] at mu; exact mu
  have hb : ∀ b, H b = none → b ≠ e := fun b n z => by
    subst z
    rcases he with r | r
    · exact hx b n r
    · rw [n] at r; cases r
  have hm : ∀ b u, H b = some u → ¬ Mut (some u) → b ≠ x := fun b u q nm z => by subst z; rw [q] at mu; exact nm mu
  refine ⟨fun b u q n _ _ => k b u (hb b n) q, fun b u q n _ _ => ⟨u.slots, k b u (hb b n) q⟩, fun b u q n _ => by rw [upd_ne (hx b n)]; exact n, fun b u q _ => ?_,
    fun b xs q => by rw [upd_ne (hm b _ q fun z => z)]; exact q, fun b u xs q => by rw [upd_ne (hm b _ q fun z => z)]; exact q, fun b ps q => ⟨#[], by rw [upd_ne (hm b _ q fun z => z), q]; simp⟩⟩
  by_cases hbe : b = e
  · subst hbe; exact heo
  · exact ⟨u, k b u hbe q⟩
end
noncomputable def trk (h : Heap) (H : Hp) : List Addr := (List.range h.objs.size).filter fun a => (H a).isSome
noncomputable def hidT (h : Heap) (H : Hp) : Heap := PySem.W.hideAll h (trk h H)
theorem hidT_size (h : Heap) (H : Hp) : (hidT h H).objs.size = h.objs.size := PySem.W.hideAll_size _ _
theorem hidT_get {h : Heap} {H : Hp} {b : Addr} {o : Obj} (e : h.get? b = some o) (n : H b = none) : (hidT h H).get? b = some o :=
  PySem.W.hideAll_get _ e fun hm => by
    have q : (H b).isSome = true := (List.mem_filter.mp hm).2
    rw [n] at q; simp at q
theorem of_hidT {h : Heap} {H : Hp} {b : Addr} {o : Obj} (e : (hidT h H).get? b = some o) : h.get? b = some o ∧ H b = none := by
  have e' : h.get? b = some o := PySem.W.of_hideAll (trk h H) e
  refine ⟨e', ?_⟩
  cases q : H b with
  | none => rfl
  | some x =>
    have hm : b ∈ trk h H := List.mem_filter.mpr ⟨List.mem_range.mpr (Heap.lt_size e'), by simp [q]⟩
    have z : (hidT h H).get? b = none := PySem.W.hideAll_none (trk h H) hm
    rw [z] at e; cases e
end L2
namespace L2
open PySem PySem.Spec PyProof.Rows
structure Mod (K : PySem.W.Frag) (mg : Str → Option Value) (base : Heap) : Prop where
  kin : K.In base
  glob : base.Ns mainGlobals mg
  blt : ∃ mb, base.Ns builtinsNs mb ∧ ∀ x : Str, x ≠ "__name__" → mb x = bootBuiltins x
  nolimit : base.NoLimit
structure Cx where
  prog : Program
  w : World
  K : PySem.W.Frag
  mg : Str → Option Value
  base : Heap
  A : Around
  N : List Str
  s₀ : Shared
  H₀ : Hp
  env : Env
  outer : List Env
  stack : List Env
  ex : List Addr
  fn : Str → Bool
  calm : Bool
  pn : List (Addr × Obj)
  xe : Value → Shared → Prop
noncomputable def frs (l : List Env) : List Addr := l.filterMap (·.frame)
noncomputable abbrev Cx.fs (X : Cx) : List Addr := frs X.outer
noncomputable def Vis (sc : Scope) (x : Str) : Prop := sc.names.lookup x = some .local ∨ sc.names.lookup x = some .cell ∨ sc.names.lookup x = some .free
noncomputable def Loc (sc : Scope) (x : Str) : Prop := sc.names.lookup x = some .local ∨ sc.names.lookup x = some .cell
noncomputable def Look (env : Env) (h : Heap) (m : Str → Option Value) (x : Str) (u : Value) : Prop :=
  (env.kindOf x = some .local ∧ m x = some u) ∨ ((env.kindOf x = some .cell ∨ env.kindOf x = some .free) ∧ ∃ c, env.cells.lookup x = some c ∧ h.IsCell c (some u))
structure Cx.Ok (X : Cx) : Prop where
  mod : Mod X.K X.mg X.base
  kind : X.env.scope.kind = .function
  glob : X.env.globals = mainGlobals
  blt : X.env.builtins = builtinsNs
  above : X.s₀.heap.objs.size ≤ X.env.locals
  inj : ∀ x y c, X.env.cells.lookup x = some c → X.env.cells.lookup y = some c → x = y
  has : ∀ x, (X.env.kindOf x = some .cell ∨ X.env.kindOf x = some .free) → ∃ c, X.env.cells.lookup x = some c
  cab : ∀ x c, X.fn x = true → X.env.cells.lookup x = some c → X.s₀.heap.objs.size ≤ c
  hd : X.calm = true → X.A.handled = none
  frames : X.A.frames = some X.stack
  stk : X.stack = X.outer ∨ (X.stack = X.env :: X.outer ∧ X.env.frame = some X.env.locals)
  exf : ∀ b ∈ X.ex, b ≠ X.env.locals ∧ ∀ x c, X.env.cells.lookup x = some c → c ≠ b
  bs : ∀ b o, X.base.get? b = some o → X.s₀.heap.get? b = some o ∧ X.H₀ b = none
  bsz : X.base.objs.size ≤ X.s₀.heap.objs.size
  noex : ∀ b o, X.base.get? b = some o → b ∉ X.ex
  exfs : ∀ b ∈ X.ex, b ∉ X.fs
  funs : X.s₀.heap.FunFrames X.base X.outer
  frf : ∀ b ∈ X.fs, X.H₀ b = none
structure Inv (X : Cx) (pins : List (Addr × Obj)) (σ : List (Option V)) (H : Hp) (s : Shared) : Prop where
  ok : X.Ok
  os : s.os = X.s₀.os
  bare : AllBare s.gens
  base : Un X.fs X.ex X.H₀ H X.s₀.heap s.heap
  loc : ∃ m, s.heap.Ns X.env.locals m ∧ ∀ (i : Nat) (x : Str) (v : V), X.N[i]? = some x → σ[i]? = some (some v) → Vis X.env.scope x → ∃ u, RelV v u ∧ Look X.env s.heap m x u
  cell : ∀ x c, X.env.cells.lookup x = some c → ∃ v, s.heap.IsCell c v
  free : H X.env.locals = none
  freeC : ∀ x c, X.env.cells.lookup x = some c → H c = none
  pin : ∀ p ∈ X.pn ++ pins, s.heap.get? p.1 = some p.2 ∧ H p.1 = none ∧ p.1 ≠ X.env.locals ∧ p.1 ∉ X.fs ∧ ∀ v, p.2.data ≠ .cell v
  hok : HOk X.prog X.w H s.heap
  len : σ.length = X.N.length
section
variable {X : Cx} {pins : List (Addr × Obj)} {σ : List (Option V)} {H H' : Hp} {s : Shared} {h' : Heap}
theorem Cx.Ok.nofr (ok : X.Ok) {b : Addr} {o : Obj} (e : X.base.get? b = some o) : b ∉ X.fs := fun hb => by
  have := (ok.funs.mem hb).1
  rw [e] at this; cases this
theorem Inv.bs (I : Inv X pins σ H s) : ∀ b o, X.base.get? b = some o → s.heap.get? b = some o ∧ H b = none := fun b o e =>
  ⟨I.base.keep b o (I.ok.bs b o e).1 (I.ok.bs b o e).2 (I.ok.nofr e) (I.ok.noex b o e), I.base.free b o (I.ok.bs b o e).1 (I.ok.bs b o e).2 (I.ok.noex b o e)⟩
theorem Inv.bk (I : Inv X pins σ H s) : ∀ b o, X.base.get? b = some o → s.heap.get? b = some o := fun b o e => (I.bs b o e).1
theorem Inv.mod (I : Inv X pins σ H s) : Mod X.K X.mg X.base := I.ok.mod
theorem Inv.kIn (I : Inv X pins σ H s) : X.K.In s.heap := I.ok.mod.kin.keeps I.bk
theorem Inv.lt (I : Inv X pins σ H s) : X.env.locals < s.heap.objs.size := let ⟨_, hn, _⟩ := I.loc; hn.lt
theorem Inv.sz (I : Inv X pins σ H s) : X.s₀.heap.objs.size ≤ s.heap.objs.size := Nat.le_trans I.ok.above (Nat.le_of_lt I.lt)
theorem Inv.nofs (I : Inv X pins σ H s) {a : Addr} (h : s.heap.objs.size ≤ a) : a ∉ X.fs := fun hb => by
  obtain ⟨_, o, ho, _⟩ := I.ok.funs.mem hb
  exact absurd (Nat.lt_of_lt_of_le (Heap.lt_size ho) (Nat.le_trans I.sz h)) (Nat.lt_irrefl _)
theorem Inv.cne (I : Inv X pins σ H s) : ∀ x c, X.env.cells.lookup x = some c → c ≠ X.env.locals := fun x c e z => by
  obtain ⟨v, o, ho, hd⟩ := I.cell x c e
  obtain ⟨m, ⟨o', es, ep, ho', hd', _⟩, _⟩ := I.loc
  rw [z, ho'] at ho; cases ho; rw [hd'] at hd; cases hd
theorem Inv.funs (I : Inv X pins σ H s) : s.heap.FunFrames X.base X.outer := by
  have all : ∀ (l : List Env), (∀ b ∈ frs l, b ∈ X.fs) → X.s₀.heap.FunFrames X.base l → s.heap.FunFrames X.base l := by
    intro l
    induction l with
    | nil => intro _ _; trivial
    | cons env r ih =>
      intro hs hl
      obtain ⟨hk, ⟨L, o, hf, hn, ho, hd⟩, hr⟩ := hl
      have hL : L ∈ X.fs := hs L (by unfold frs; rw [List.filterMap_cons, hf]; exact List.mem_cons_self)
      obtain ⟨sl, e⟩ := I.base.slot L o ho (I.ok.frf L hL) hL fun z => I.ok.exfs L z hL
      exact ⟨hk, ⟨L, _, hf, hn, e, hd⟩, ih (fun b hb => hs b (by unfold frs; rw [List.filterMap_cons, hf]; exact List.mem_cons_of_mem _ hb)) hr⟩
  exact all X.outer (fun _ hb => hb) I.ok.funs
theorem Inv.stack (I : Inv X pins σ H s) : s.heap.FunFrames X.base X.stack := by
  rcases I.ok.stk with e | ⟨e, hf⟩
  · rw [e]; exact I.funs
  · rw [e]
    obtain ⟨m, hn, _⟩ := I.loc
    refine .cons (by rw [I.ok.kind]; decide) hf hn ?_ I.funs
    exact Heap.get?_none_of_le (Nat.le_trans I.ok.bsz I.ok.above)
theorem Inv.stkSub (I : Inv X pins σ H s) : ∀ b ∈ frs X.stack, b ∈ X.env.locals :: X.fs := fun b hb => by
  rcases I.ok.stk with e | ⟨e, hf⟩
  · rw [e] at hb; exact List.mem_cons_of_mem _ hb
  · rw [e] at hb
    unfold frs at hb
    rw [List.filterMap_cons, hf] at hb
    exact hb
theorem Inv.stkFree (I : Inv X pins σ H s) : ∀ b ∈ frs X.stack, H b = none := fun b hb => by
  rcases List.mem_cons.mp (I.stkSub b hb) with e | hb
  · rw [e]; exact I.free
  · obtain ⟨_, o, ho, _⟩ := I.ok.funs.mem hb
    exact I.base.free b o ho (I.ok.frf b hb) fun z => I.ok.exfs b z hb
theorem Inv.step {g' : Array GenState} {t' : Nat} {d' : Drawn} {ch : List Addr} (I : Inv X pins σ H s)
    (hch : ∀ b ∈ ch, (b ∈ X.ex ∨ X.s₀.heap.objs.size ≤ b) ∧ b ≠ X.env.locals ∧ (∀ x c, X.env.cells.lookup x = some c → c ≠ b) ∧ ∀ p ∈ X.pn ++ pins, p.1 ≠ b)
    (keep : ∀ b o, b ≠ X.env.locals → b ∉ X.fs → b ∉ ch → s.heap.get? b = some o → H b = none → h'.get? b = some o)
    (slot : ∀ b o, b ≠ X.env.locals → b ∈ X.fs → b ∉ ch → s.heap.get? b = some o → H b = none → ∃ sl, h'.get? b = some { o with slots := sl }) (free : ∀ b o, b ∉ ch → s.heap.get? b = some o → H b = none → H' b = none)
    (there : ∀ b o, b ∉ ch → s.heap.get? b = some o → ∃ o', h'.get? b = some o')
    (tups : ∀ b xs, H b = some (.tup xs) → H' b = some (.tup xs)) (frzs : ∀ b o u, H b = some (.frz o (.lst u)) → H' b = some (.frz o (.lst u))) (tbls : ∀ b ps, H b = some (.tbl ps) → ∃ more, H' b = some (.tbl (ps ++ more)))
    (ns : ∀ m, s.heap.Ns X.env.locals m → h'.Ns X.env.locals m) (hok : HOk X.prog X.w H' h') (hg : AllBare g') :
    Inv X pins σ H' { s with heap := h', gens := g', drawn := d', toks := t' } := by
  have neL : ∀ b o, X.s₀.heap.get? b = some o → b ≠ X.env.locals := fun b o e => Nat.ne_of_lt (Nat.lt_of_lt_of_le (Heap.lt_size e) I.ok.above)
  have neC : ∀ b o, X.s₀.heap.get? b = some o → b ∉ X.ex → b ∉ ch := fun b o e hx hb => by
    rcases (hch b hb).1 with z | z
    · exact hx z
    · exact absurd (Nat.lt_of_lt_of_le (Heap.lt_size e) z) (Nat.lt_irrefl _)
  have cellK : ∀ x c, X.env.cells.lookup x = some c → ∀ v, s.heap.IsCell c v → h'.IsCell c v := fun x c e v ⟨o, ho, hd⟩ => by
    have nch : c ∉ ch := fun z => (hch c z).2.2.1 x c e rfl
    by_cases hc : c ∈ X.fs
    · obtain ⟨sl, q⟩ := slot c o (I.cne x c e) hc nch ho (I.freeC x c e)
      exact ⟨_, q, hd⟩
    · exact ⟨o, keep c o (I.cne x c e) hc nch ho (I.freeC x c e), hd⟩
  refine ⟨I.ok, I.os, hg, ⟨fun b o e n hb hx => ?_, fun b o e n hb hx => ?_, fun b o e n hx => ?_, fun b o e hx => ?_, fun b xs e => tups b xs (I.base.tups b xs e), fun b o xs e => frzs b o xs (I.base.frzs b o xs e), fun b ps e => ?_⟩, ?_, fun x c e => ?_, ?_, fun x c e => ?_, fun p hp => ?_, hok, I.len⟩
  · exact keep b o (neL b o e) hb (neC b o e hx) (I.base.keep b o e n hb hx) (I.base.free b o e n hx)
  · obtain ⟨sl, e1⟩ := I.base.slot b o e n hb hx
    obtain ⟨sl', e2⟩ := slot b _ (neL b o e) hb (neC b o e hx) e1 (I.base.free b o e n hx)
    exact ⟨sl', e2⟩
  · obtain ⟨o', e1⟩ := I.base.there b o e hx
    exact free b o' (neC b o e hx) e1 (I.base.free b o e n hx)
  · obtain ⟨o', e1⟩ := I.base.there b o e hx
    exact there b o' (neC b o e hx) e1
  · obtain ⟨m1, e1⟩ := I.base.tbls b ps e
    obtain ⟨m2, e2⟩ := tbls b _ e1
    exact ⟨m1 ++ m2, by rw [e2, Array.append_assoc]⟩
  · obtain ⟨m, hn, hl⟩ := I.loc
    refine ⟨m, ns m hn, fun i x v e1 e2 e3 => ?_⟩
    obtain ⟨u, r, l⟩ := hl i x v e1 e2 e3
    refine ⟨u, r, ?_⟩
    rcases l with l | ⟨k, c, e, z⟩
    · exact .inl l
    · exact .inr ⟨k, c, e, cellK x c e _ z⟩
  · obtain ⟨v, z⟩ := I.cell x c e
    exact ⟨v, cellK x c e v z⟩
  · obtain ⟨m, ⟨o, _, _, ho, _⟩, _⟩ := I.loc
    exact free _ o (fun z => (hch _ z).2.1 rfl) ho I.free
  · obtain ⟨v, o, ho, hd⟩ := I.cell x c e
    exact free c o (fun z => (hch c z).2.2.1 x c e rfl) ho (I.freeC x c e)
  · obtain ⟨e, n, ne, nf, d⟩ := I.pin p hp
    have nch : p.1 ∉ ch := fun z => (hch p.1 z).2.2.2 p hp rfl
    exact ⟨keep p.1 p.2 ne nf nch e n, free p.1 p.2 nch e n, ne, nf, d⟩
theorem Inv.un {t' : Nat} (I : Inv X pins σ H s) (u : Un X.fs [] H H' s.heap h') (hok : HOk X.prog X.w H' h') : Inv X pins σ H' { s with heap := h', toks := t' } := by
  obtain ⟨m, ⟨o, es, ep, ho, r⟩, _⟩ := id I.loc
  obtain ⟨sl, hL⟩ := u.any ho I.free (by simp)
  exact I.step (g' := s.gens) (d' := s.drawn) (ch := []) (fun _ z => nomatch z) (fun b o _ hb _ e n => u.keep b o e n hb (by simp)) (fun b o _ hb _ e n => u.slot b o e n hb (by simp)) (fun b o _ e n => u.free b o e n (by simp)) (fun b o _ e => u.there b o e (by simp)) u.tups u.frzs u.tbls (fun m' hm => by
    obtain ⟨o', es', ep', ho', r'⟩ := hm
    rw [ho] at ho'; cases ho'
    exact ⟨_, es', ep', hL, r'⟩) hok I.bare
theorem Inv.call {g' : Array GenState} {t' : Nat} {d' : Drawn} {ch : List Addr} (I : Inv X pins σ H s) (u : Un (frs X.stack) ch H H' s.heap h') (hok : HOk X.prog X.w H' h') (hg : AllBare g')
    (hch : ∀ b ∈ ch, (b ∈ X.ex ∨ X.s₀.heap.objs.size ≤ b) ∧ b ≠ X.env.locals ∧ (∀ x c, X.env.cells.lookup x = some c → c ≠ b) ∧ ∀ p ∈ X.pn ++ pins, p.1 ≠ b) :
    Inv X pins σ H' { s with heap := h', gens := g', drawn := d', toks := t' } := by
  obtain ⟨m, ⟨o, es, ep, ho, r⟩, _⟩ := id I.loc
  obtain ⟨sl, hL⟩ := u.any ho I.free fun z => (hch _ z).2.1 rfl
  exact I.step (ch := ch) hch (fun b o hL hb hc e n => u.keep b o e n (fun z => (List.mem_cons.mp (I.stkSub b z)).elim hL hb) hc) (fun b o _ _ hc e n => u.any e n hc) (fun b o hc e n => u.free b o e n hc) (fun b o hc e => u.there b o e hc) u.tups u.frzs u.tbls (fun m' hm => by
    obtain ⟨o', es', ep', ho', r'⟩ := hm
    rw [ho] at ho'; cases ho'
    exact ⟨_, es', ep', hL, r'⟩) hok hg
theorem Inv.turned {t' : Nat} {it : Addr} (I : Inv X pins σ H s) (k : ∀ b o, b ≠ it → s.heap.get? b = some o → h'.get? b = some o) (hn : H it = none) (hL : it ≠ X.env.locals)
    (h1 : it ∈ X.ex ∨ X.s₀.heap.objs.size ≤ it) (h2 : ∀ x c, X.env.cells.lookup x = some c → c ≠ it) (h3 : ∀ p ∈ X.pn ++ pins, p.1 ≠ it) : Inv X pins σ H { s with heap := h', toks := t' } := by
  have nit : ∀ b u, H b = some u → b ≠ it := fun b u e z => by rw [z, hn] at e; cases e
  refine I.step (g' := s.gens) (d' := s.drawn) (ch := [it]) (fun b hb => ?_) (fun b o _ _ hc e _ => k b o (fun z => hc (by simp [z])) e) (fun b o _ _ hc e _ => ⟨o.slots, k b o (fun z => hc (by simp [z])) e⟩) (fun _ _ _ _ n => n)
    (fun b o hc e => ⟨o, k b o (fun z => hc (by simp [z])) e⟩) (fun _ _ e => e) (fun _ _ _ e => e) (fun b ps e => ⟨#[], by rw [e]; simp⟩) (fun m hm => ?_) (fun b u e => ?_) I.bare
  · have e : b = it := by simpa using hb
    subst e
    exact ⟨h1, hL, h2, h3⟩
  · obtain ⟨o, es, ep, ho, r⟩ := hm
    exact ⟨o, es, ep, k _ o (Ne.symm hL) ho, r⟩
  · refine (I.hok b u e).stay (fun c v hc q => k c v ?_ q) (fun _ q => q) fun _ _ q => q
    rcases hc with z | z
    · rw [z]; exact nit b u e
    · exact nit c _ z
theorem Inv.tok (I : Inv X pins σ H s) (t : Nat) : Inv X pins σ H { s with toks := t } := I.un (h' := s.heap) (t' := t) Un.refl I.hok
theorem Inv.kept {t' : Nat} (I : Inv X pins σ H s) (k : ∀ b u, s.heap.get? b = some u → h'.get? b = some u) : Inv X pins σ H { s with heap := h', toks := t' } := I.un (Un.kept k) (I.hok.kept k)
theorem Inv.laid {a : Addr} {o : HO} {t' : Nat} (I : Inv X pins σ H s) (k : ∀ b u, s.heap.get? b = some u → h'.get? b = some u) (hp : s.heap.objs.size ≤ a) (new : ObjOk X.prog X.w (upd H a o) h' a o) :
    Inv X pins σ (upd H a o) { s with heap := h', toks := t' } := I.un (Un.laid k hp (I.hok.fresh hp)) (I.hok.laid k hp new)
theorem Inv.write {x e : Addr} {o : HO} {t' : Nat} (I : Inv X pins σ H s) (mu : Mut (H x)) (he : e = x ∨ H e = some (.own x)) (k : ∀ b u, b ≠ e → s.heap.get? b = some u → h'.get? b = some u) (heo : ∃ u, h'.get? e = some u)
    (new : ObjOk X.prog X.w (upd H x o) h' x o) : Inv X pins σ (upd H x o) { s with heap := h', toks := t' } := I.un (Un.write mu he k heo) (I.hok.write mu he k heo new)
theorem Inv.weak {σ' : List (Option V)} (I : Inv X pins σ H s) (hl : σ'.length = σ.length) (w : ∀ (i : Nat) v, σ'[i]? = some (some v) → σ[i]? = some (some v)) : Inv X pins σ' H s :=
  ⟨I.ok, I.os, I.bare, I.base, let ⟨m, hn, hl'⟩ := I.loc; ⟨m, hn, fun i x v e1 e2 e3 => hl' i x v e1 (w i v e2) e3⟩, I.cell, I.free, I.freeC, I.pin, I.hok, hl.trans I.len⟩
theorem Inv.pins_of {pins' : List (Addr × Obj)} (I : Inv X pins σ H s) (h : ∀ p ∈ pins', s.heap.get? p.1 = some p.2 ∧ H p.1 = none ∧ p.1 ≠ X.env.locals ∧ p.1 ∉ X.fs ∧ ∀ v, p.2.data ≠ .cell v) : Inv X pins' σ H s :=
  ⟨I.ok, I.os, I.bare, I.base, I.loc, I.cell, I.free, I.freeC, fun p hp => (List.mem_append.mp hp).elim (fun z => I.pin p (List.mem_append_left _ z)) (h p), I.hok, I.len⟩
theorem nodup_ix {N : List Str} (hN : N.Nodup) {i j : Nat} {x : Str} (a : N[i]? = some x) (b : N[j]? = some x) : i = j := by
  obtain ⟨h1, e1⟩ := List.getElem?_eq_some_iff.mp a
  obtain ⟨h2, e2⟩ := List.getElem?_eq_some_iff.mp b
  exact (List.getElem_inj hN).mp (e1.trans e2.symm)
theorem store_ok2 {M : Model} {A : Around} {E : Value → Shared → Prop} {i : Nat} {x : Str} {v : V} {u : Value} {Q : Unit → Shared → Prop} (I : Inv X pins σ H s) (hN : X.N.Nodup) (hi : X.N[i]? = some x) (hx : Loc X.env.scope x) (r : RelV v u)
    (h : ∀ s', Inv X pins (σ.set i (some v)) H s' → (∃ a, Heap.SameBut a s.heap s'.heap ∧ (a = X.env.locals ∨ X.env.cells.lookup x = some a)) → Q () s') (hf : X.fn x = true ∨ X.env.scope.names.lookup x = some .local := by first | exact .inl rfl | exact .inr rfl | assumption) : wpAny M A (storeName X.env x u) Q E s := by
  obtain ⟨m, hn, hl⟩ := id I.loc
  have hcls : (X.env.scope.kind == .class || (X.env.scope.kind == .module && X.env.locals != X.env.globals)) = false := by rw [I.ok.kind]; rfl
  have hiσ : i < σ.length := by rw [I.len]; exact (List.getElem?_eq_some_iff.mp hi).1
  have cne := I.cne
  have tracked : ∀ {a : Addr} {h' : Heap}, (∃ o, s.heap.get? a = some o ∧ H a = none) → Heap.SameBut a s.heap h' → HOk X.prog X.w H h' := fun {a h'} ha hs b ob e => by
    obtain ⟨_, _, hfree⟩ := ha
    refine (I.hok b ob e).stay (fun c w' hc q => (hs.2 c ?_).trans q) (fun _ q => q) fun _ _ q => q
    rintro rfl
    rcases hc with rfl | hc
    · rw [hfree] at e; cases e
    · rw [hfree] at hc; cases hc
  rcases hx with hk | hk
  · refine wpAny_storeName_local hk hn (fun h' hn' hs => ?_) hcls
    obtain ⟨oL, _, _, hoL, _⟩ := id hn
    refine h _ ⟨I.ok, I.os, I.bare, ⟨fun b o e n hb hx => ?_, fun b o e n hb hx => ?_, I.base.free, fun b o e hx => ?_, I.base.tups, I.base.frzs, I.base.tbls⟩, ⟨_, hn', fun j y v' e1 e2 e3 => ?_⟩, fun y c e => ?_, I.free, I.freeC, fun p hp => ?_, tracked ⟨oL, hoL, I.free⟩ hs, by simpa using I.len⟩ ⟨_, hs, .inl rfl⟩
    · exact (hs.2 b (Nat.ne_of_lt (Nat.lt_of_lt_of_le (Heap.lt_size e) I.ok.above))).trans (I.base.keep b o e n hb hx)
    · obtain ⟨sl, e1⟩ := I.base.slot b o e n hb hx
      exact ⟨sl, (hs.2 b (Nat.ne_of_lt (Nat.lt_of_lt_of_le (Heap.lt_size e) I.ok.above))).trans e1⟩
    · obtain ⟨o', e1⟩ := I.base.there b o e hx
      exact ⟨o', (hs.2 b (Nat.ne_of_lt (Nat.lt_of_lt_of_le (Heap.lt_size e) I.ok.above))).trans e1⟩
    · by_cases hj : j = i
      · subst hj
        rw [hi] at e1; cases e1
        rw [List.getElem?_set_self hiσ] at e2
        cases e2
        exact ⟨u, r, .inl ⟨hk, by simp⟩⟩
      · rw [List.getElem?_set_ne (Ne.symm hj)] at e2
        obtain ⟨u', r', q⟩ := hl j y v' e1 e2 e3
        refine ⟨u', r', ?_⟩
        rcases q with ⟨k, e⟩ | ⟨k, c, e, z⟩
        · refine .inl ⟨k, ?_⟩
          have : y ≠ x := fun e => hj (nodup_ix hN e1 (e ▸ hi))
          simp [this, e]
        · exact .inr ⟨k, c, e, z.sameBut hs (cne y c e)⟩
    · obtain ⟨w', z⟩ := I.cell y c e
      exact ⟨w', z.sameBut hs (cne y c e)⟩
    · obtain ⟨e, n, ne, nf, d⟩ := I.pin p hp
      exact ⟨(hs.2 p.1 ne).trans e, n, ne, nf, d⟩
  · have hfn : X.fn x = true := by
      rcases hf with z | z
      · exact z
      · rw [z] at hk; cases hk
    obtain ⟨c, hc⟩ := I.ok.has x (.inl hk)
    obtain ⟨w', z⟩ := I.cell x c hc
    refine wpAny_storeName_cell I.ok.kind hk hc z (fun h' hc' hs => ?_)
    obtain ⟨oc, hoc, hocd⟩ := id z
    refine h { s with heap := h' } ⟨I.ok, I.os, I.bare, ⟨fun b o e n hb hx => ?_, fun b o e n hb hx => ?_, I.base.free, fun b o e hx => ?_, I.base.tups, I.base.frzs, I.base.tbls⟩, ⟨m, hn.sameBut hs (Ne.symm (cne x c hc)), fun j y v' e1 e2 e3 => ?_⟩, fun y c' e => ?_, I.free, I.freeC, fun p hp => ?_, tracked ⟨oc, hoc, I.freeC x c hc⟩ hs, by simpa using I.len⟩ ⟨c, hs, .inr hc⟩
    · exact (hs.2 b (Nat.ne_of_lt (Nat.lt_of_lt_of_le (Heap.lt_size e) (I.ok.cab x c hfn hc)))).trans (I.base.keep b o e n hb hx)
    · obtain ⟨sl, e1⟩ := I.base.slot b o e n hb hx
      exact ⟨sl, (hs.2 b (Nat.ne_of_lt (Nat.lt_of_lt_of_le (Heap.lt_size e) (I.ok.cab x c hfn hc)))).trans e1⟩
    · obtain ⟨o', e1⟩ := I.base.there b o e hx
      exact ⟨o', (hs.2 b (Nat.ne_of_lt (Nat.lt_of_lt_of_le (Heap.lt_size e) (I.ok.cab x c hfn hc)))).trans e1⟩
    · by_cases hj : j = i
      · subst hj
        rw [hi] at e1; cases e1
        rw [List.getElem?_set_self hiσ] at e2
        cases e2
        exact ⟨u, r, .inr ⟨.inl hk, c, hc, hc'⟩⟩
      · rw [List.getElem?_set_ne (Ne.symm hj)] at e2
        obtain ⟨u', r', q⟩ := hl j y v' e1 e2 e3
        refine ⟨u', r', ?_⟩
        rcases q with q | ⟨k, c', e, z'⟩
        · exact .inl q
        · refine .inr ⟨k, c', e, z'.sameBut hs ?_⟩
          rintro rfl
          exact hj (nodup_ix hN e1 (I.ok.inj _ _ _ e hc ▸ hi))
    · by_cases hcc : c' = c
      · subst hcc; exact ⟨_, hc'⟩
      · obtain ⟨w2, z2⟩ := I.cell y c' e
        exact ⟨w2, z2.sameBut hs hcc⟩
    · obtain ⟨e, n, ne, nf, d⟩ := I.pin p hp
      refine ⟨(hs.2 p.1 ?_).trans e, n, ne, nf, d⟩
      intro q
      rw [q, hoc] at e
      have q' : oc = p.2 := Option.some.inj e
      exact d w' (by rw [← q']; exact hocd)
theorem store_ok {M : Model} {A : Around} {E : Value → Shared → Prop} {i : Nat} {x : Str} {v : V} {u : Value} {Q : Unit → Shared → Prop} (I : Inv X pins σ H s) (hN : X.N.Nodup) (hi : X.N[i]? = some x) (hx : Loc X.env.scope x) (r : RelV v u)
    (h : ∀ s', Inv X pins (σ.set i (some v)) H s' → Q () s') (hf : X.fn x = true ∨ X.env.scope.names.lookup x = some .local := by first | exact .inl rfl | exact .inr rfl | assumption) : wpAny M A (storeName X.env x u) Q E s :=
  store_ok2 I hN hi hx r (fun s' I' _ => h s' I') hf
theorem Inv.call' {s' : Shared} {ch : List Addr} (I : Inv X pins σ H s) (ho : s'.os = s.os) (u : Un (frs X.stack) ch H H' s.heap s'.heap) (hok : HOk X.prog X.w H' s'.heap) (hg : AllBare s'.gens)
    (hch : ∀ b ∈ ch, (b ∈ X.ex ∨ X.s₀.heap.objs.size ≤ b) ∧ b ≠ X.env.locals ∧ (∀ x c, X.env.cells.lookup x = some c → c ≠ b) ∧ ∀ p ∈ X.pn ++ pins, p.1 ≠ b) : Inv X pins σ H' s' := by
  obtain ⟨h', g', d', t', o'⟩ := s'
  have e : o' = s.os := ho
  subst e
  exact I.call (g' := g') (t' := t') (d' := d') u hok hg hch
end
noncomputable abbrev XK := Value → Option Addr → Hp → Prop
noncomputable abbrev St := List (Option V)
noncomputable abbrev VK := V → Hp → Prop
noncomputable abbrev TE := St → Hp → VK → Prop
noncomputable abbrev TT := St → Hp → (Bool → Hp → Prop) → Prop
noncomputable abbrev TA := St → Hp → (List V → Hp → Prop) → Prop
structure Ends where
  nx : St → Hp → Prop
  rt : VK
  bk : St → Hp → Prop := fun _ _ => False
  ct : St → Hp → Prop := fun _ _ => False
noncomputable abbrev TS := Ends → St → Hp → Prop
noncomputable def EP (X : Cx) (pins : List (Addr × Obj)) (σ : St) (Q : VK) (u : Value) (s' : Shared) : Prop := ∃ v H', Inv X pins σ H' s' ∧ RelV v u ∧ Q v H'
noncomputable def TP (X : Cx) (pins : List (Addr × Obj)) (σ : St) (Q : Bool → Hp → Prop) (b : Bool) (s' : Shared) : Prop := ∃ H', Inv X pins σ H' s' ∧ Q b H'
noncomputable def AP (X : Cx) (pins : List (Addr × Obj)) (σ : St) (Q : List V → Hp → Prop) (us : List Value) (s' : Shared) : Prop := ∃ vs H', Inv X pins σ H' s' ∧ Vals vs us ∧ Q vs H'
noncomputable def SP (X : Cx) (pins : List (Addr × Obj)) (D : Ends) (f : Flow) (s' : Shared) : Prop :=
  match f with
  | .next => ∃ σ' H', Inv X pins σ' H' s' ∧ D.nx σ' H'
  | .brk => ∃ σ' H', Inv X pins σ' H' s' ∧ D.bk σ' H'
  | .cont => ∃ σ' H', Inv X pins σ' H' s' ∧ D.ct σ' H'
  | .ret u => ∃ v σ' H', Inv X pins σ' H' s' ∧ RelV v u ∧ D.rt v H'
noncomputable def PE (X : Cx) (e : Expr) (t : TE) : Prop :=
  ∀ (pins : List (Addr × Obj)) (s : Shared) (σ : St) (H : Hp) (Q : VK), Inv X pins σ H s → t σ H Q → wpAny (model X.prog X.w) X.A (eval e X.env) (EP X pins σ Q) X.xe s
noncomputable def PT (X : Cx) (e : Expr) (t : TT) : Prop :=
  ∀ (pins : List (Addr × Obj)) (s : Shared) (σ : St) (H : Hp) (Q : Bool → Hp → Prop), Inv X pins σ H s → t σ H Q → wpAny (model X.prog X.w) X.A (isTrue e X.env (eval e X.env)) (TP X pins σ Q) X.xe s
noncomputable def PW (X : Cx) (e : Expr) (t : TT) : Prop :=
  ∀ (whole : Sem Value) (pins : List (Addr × Obj)) (s : Shared) (σ : St) (H : Hp) (Q : Bool → Hp → Prop), Inv X pins σ H s → t σ H Q → wpAny (model X.prog X.w) X.A (isTrue e X.env whole) (TP X pins σ Q) X.xe s
theorem PW.pt {X : Cx} {e : Expr} {t : TT} (h : PW X e t) : PT X e t := h _
noncomputable def PA (X : Cx) (es : List Expr) (t : TA) : Prop :=
  ∀ (pos : Pos) (pins : List (Addr × Obj)) (s : Shared) (σ : St) (H : Hp) (Q : List V → Hp → Prop), Inv X pins σ H s → t σ H Q → wpAny (model X.prog X.w) X.A (spliced (backTo pos (starEach es X.env))) (AP X pins σ Q) X.xe s
noncomputable def PS (X : Cx) (st : Stmt) (t : TS) : Prop :=
  ∀ (pins : List (Addr × Obj)) (s : Shared) (σ : St) (H : Hp) (D : Ends), Inv X pins σ H s → t D σ H → wpAny (model X.prog X.w) X.A (exec st X.env) (SP X pins D) X.xe s
noncomputable def PSs (X : Cx) (st : List Stmt) (t : TS) : Prop :=
  ∀ (pins : List (Addr × Obj)) (s : Shared) (σ : St) (H : Hp) (D : Ends), Inv X pins σ H s → t D σ H → wpAny (model X.prog X.w) X.A (execs st X.env) (SP X pins D) X.xe s
theorem thn {α : Type} {t : Sem α} {Q Q' : α → Shared → Prop} {M : Model} {A : Around} {E : Value → Shared → Prop} {s : Shared} (h : wpAny M A t Q E s) (hQ : ∀ a s, Q a s → Q' a s) : wpAny M A t Q' E s := wpAny_mono h hQ fun _ _ x => x
end L2
namespace L2
open PySem PySem.Spec PyProof.Rows
section
variable {X : Cx}
noncomputable def tVar (i : Nat) : TE := fun σ H Q => ∃ v, σ[i]? = some (some v) ∧ Q v H
noncomputable def tC (v : V) : TE := fun _ H Q => Q v H
theorem pe_var {i : Nat} {x : Str} {pos : Pos} (hN : X.N[i]? = some x) (hv : Vis X.env.scope x) (hd : (x == ("__debug__" : Str)) = false := by decide) (hcd : (x == ("__classdict__" : Str)) = false := by decide) : PE X (.Name x pos) (tVar i) := by
  intro pins s σ H Q I h
  obtain ⟨v, e, h⟩ := h
  obtain ⟨m, hn, hl⟩ := I.loc
  obtain ⟨u, r, l⟩ := hl i x v hN e hv
  have fin : EP X pins σ Q u s := ⟨v, H, I, r, h⟩
  rcases l with ⟨hk, hm⟩ | ⟨hk, c, hc, hcell⟩
  · exact wpAny_Name (wpAny_loadName_local I.ok.kind hk hn hm fin) hd
  · rcases hk with hk | hk
    · exact wpAny_Name (wpAny_loadName_cell I.ok.kind hk hc hcell fin) hd
    · exact wpAny_Name (wpAny_loadName_free I.ok.kind hk hc hcell fin hcd) hd
theorem pe_int {i j pos} : PE X (.Constant (.int i) j pos) (tC (.int i)) := fun _ _ _ H _ I h => wpAny_Constant_int ⟨.int i, H, I.tok _, ⟨_, rfl⟩, h⟩
theorem pe_bl {b j pos} : PE X (.Constant (.bool b) j pos) (tC (.bl b)) := fun _ _ _ H _ I h => Constant_bool ⟨.bl b, H, I, rfl, h⟩
theorem pe_non {j pos} : PE X (.Constant .none j pos) (tC .non) := fun _ _ _ H _ I h => Constant_none ⟨.non, H, I, rfl, h⟩
theorem pe_str {x j pos} : PE X (.Constant (.str x) j pos) (tC (.str x)) := fun _ _ _ H _ I h => Calls.Constant_str ⟨.str x, H, I.tok _, ⟨_, rfl⟩, h⟩
noncomputable def Gl (X : Cx) (x : Str) : Prop := X.env.kindOf x = some .globalImplicit
theorem ld_glob {E : Value → Shared → Prop} {pins : List (Addr × Obj)} {s : Shared} {σ : St} {H : Hp} {x : Str} {u : Value} {pos : Pos} {Q : Value → Shared → Prop} (I : Inv X pins σ H s) (hg : Gl X x) (hm : X.mg x = some u) (h : Q u s)
    (hd : (x == ("__debug__" : Str)) = false := by decide) : wpAny (model X.prog X.w) X.A (eval (.Name x pos) X.env) Q E s :=
  Calls.Name_function_global I.ok.kind hg (Calls.loadGlobal_global (by rw [I.ok.glob]; exact I.mod.glob.keeps I.bk) hm h) hd
theorem ld_blt {E : Value → Shared → Prop} {pins : List (Addr × Obj)} {s : Shared} {σ : St} {H : Hp} {x : Str} {u : Value} {pos : Pos} {Q : Value → Shared → Prop} (I : Inv X pins σ H s) (hg : Gl X x) (hm : X.mg x = none) (hv : bootBuiltins x = some u) (h : Q u s)
    (hn : x ≠ "__name__" := by decide) (hd : (x == ("__debug__" : Str)) = false := by decide) : wpAny (model X.prog X.w) X.A (eval (.Name x pos) X.env) Q E s := by
  obtain ⟨mb, h1, h2⟩ := I.mod.blt
  exact Calls.Name_function_global I.ok.kind hg (Calls.loadGlobal_builtin (by rw [I.ok.glob]; exact I.mod.glob.keeps I.bk) hm (by rw [I.ok.blt]; exact h1.keeps I.bk) ((h2 x hn).trans hv) h) hd
theorem pe_bltn {x : Str} {v : V} {u : Value} {pos : Pos} (hg : Gl X x) (hm : X.mg x = none) (hv : bootBuiltins x = some u) (r : RelV v u) (hn : x ≠ "__name__" := by decide) (hd : (x == ("__debug__" : Str)) = false := by decide) : PE X (.Name x pos) (tC v) :=
  fun _ _ _ H _ I h => ld_blt I hg hm hv ⟨v, H, I, r, h⟩ hn hd
variable {a b : Expr} {ta tb : TE} {pos : Pos}
variable {tA tB' : TT} {rest : List Expr}
noncomputable def tAnd (t u : TT) : TT := fun σ H Q => t σ H fun c H1 => if c = true then u σ H1 Q else Q false H1
noncomputable def tOr (t u : TT) : TT := fun σ H Q => t σ H fun c H1 => if c = true then Q true H1 else u σ H1 Q
noncomputable def tNot (t : TT) : TT := fun σ H Q => t σ H fun c H1 => Q (!c) H1
theorem pw_and1 (ha : PT X a tA) : PW X (.BoolOp .And [a] pos) tA := by
  intro wh pins s σ H Q I h
  refine isTrue_and (thn (ha pins s σ H Q I h) fun c s1 e => ?_)
  cases c with
  | true => exact isTrue_and_nil e
  | false => exact e
theorem pw_or1 (ha : PT X a tA) : PW X (.BoolOp .Or [a] pos) tA := by
  intro wh pins s σ H Q I h
  refine isTrue_or (thn (ha pins s σ H Q I h) fun c s1 e => ?_)
  cases c with
  | false => exact isTrue_or_nil e
  | true => exact e
theorem pw_and (ha : PT X a tA) (hb : PW X (.BoolOp .And (b :: rest) pos) tB') : PW X (.BoolOp .And (a :: b :: rest) pos) (tAnd tA tB') := by
  intro wh pins s σ H Q I h
  refine isTrue_and (thn (ha pins s σ H _ I h) fun c s1 ⟨H1, I1, q1⟩ => ?_)
  cases c with
  | true => exact hb wh pins s1 σ H1 Q I1 q1
  | false => exact ⟨H1, I1, q1⟩
theorem pw_or (ha : PT X a tA) (hb : PW X (.BoolOp .Or (b :: rest) pos) tB') : PW X (.BoolOp .Or (a :: b :: rest) pos) (tOr tA tB') := by
  intro wh pins s σ H Q I h
  refine isTrue_or (thn (ha pins s σ H _ I h) fun c s1 ⟨H1, I1, q1⟩ => ?_)
  cases c with
  | true => exact ⟨H1, I1, q1⟩
  | false => exact hb wh pins s1 σ H1 Q I1 q1
theorem pt_not (ha : PT X a tA) : PT X (.UnaryOp .Not a pos) (tNot tA) := by
  intro pins s σ H Q I h
  exact isTrue_not (ha pins s σ H (fun c H1 => Q (!c) H1) I h)
noncomputable def tAndV (ta tb : TE) : TE := fun σ H Q => ta σ H fun x H1 => ∃ c, x = .bl c ∧ if c = true then tb σ H1 Q else Q (.bl false) H1
noncomputable def tOrV (ta tb : TE) : TE := fun σ H Q => ta σ H fun x H1 => ∃ c, x = .bl c ∧ if c = true then Q (.bl true) H1 else tb σ H1 Q
noncomputable def tNotV (ta : TE) : TE := fun σ H Q => ta σ H fun x H1 => ∃ c, x = .bl c ∧ Q (.bl (!c)) H1
theorem pe_one {op} {t : TE} (h : PE X a t) : PE X (.BoolOp op [a] pos) t := fun pins s σ H Q I hw => BoolOp_one (h pins s σ H Q I hw)
theorem pe_and (ha : PE X a ta) (hb : PE X (.BoolOp .And (b :: rest) pos) tb) : PE X (.BoolOp .And (a :: b :: rest) pos) (tAndV ta tb) := by
  intro pins s σ H Q I h
  refine BoolOp_and (thn (ha pins s σ H _ I h) fun v s1 ⟨x, H1, I1, r1, q1⟩ => ?_)
  obtain ⟨c, rfl, q1⟩ := q1
  cases r1
  refine wpAny_truthy_bool ?_
  cases c with
  | true => exact hb pins s1 σ H1 Q I1 q1
  | false => exact ⟨.bl false, H1, I1, rfl, q1⟩
theorem pe_or (ha : PE X a ta) (hb : PE X (.BoolOp .Or (b :: rest) pos) tb) : PE X (.BoolOp .Or (a :: b :: rest) pos) (tOrV ta tb) := by
  intro pins s σ H Q I h
  refine BoolOp_or (thn (ha pins s σ H _ I h) fun v s1 ⟨x, H1, I1, r1, q1⟩ => ?_)
  obtain ⟨c, rfl, q1⟩ := q1
  cases r1
  refine wpAny_truthy_bool ?_
  cases c with
  | false => exact hb pins s1 σ H1 Q I1 q1
  | true => exact ⟨.bl true, H1, I1, rfl, q1⟩
theorem pe_not (ha : PE X a ta) : PE X (.UnaryOp .Not a pos) (tNotV ta) := by
  intro pins s σ H Q I h
  refine UnaryOp_ (thn (ha pins s σ H _ I h) fun v s1 ⟨x, H1, I1, r1, q1⟩ => ?_)
  obtain ⟨c, rfl, q1⟩ := q1
  cases r1
  exact not_of (wpAny_truthy_bool ⟨.bl (!c), H1, I1, rfl, q1⟩)
noncomputable def tIf (t : TT) (ta tb : TE) : TE := fun σ H Q => t σ H fun c H1 => if c = true then ta σ H1 Q else tb σ H1 Q
theorem pe_ifExp {c : Expr} (hc : PT X c tA) (ha : PE X a ta) (hb : PE X b tb) : PE X (.IfExp c a b pos) (tIf tA ta tb) := by
  intro pins s σ H Q I h
  refine wpAny_IfExp (thn (hc pins s σ H _ I h) fun d s1 ⟨H1, I1, q1⟩ => ?_)
  cases d with
  | true => exact ha pins s1 σ H1 Q I1 q1
  | false => exact hb pins s1 σ H1 Q I1 q1
end
end L2
namespace L2
open PySem PySem.Spec PyProof.Rows
noncomputable def SqL (K : PySem.W.Frag) (H : Hp) (a : Addr) (xs : List V) : Prop :=
  Rd H a (.lst xs) ∨
    ∃ (o : Obj) (its : Array Value) (n : Nat), K.lookup a = some o ∧ o.cls = .type "list" ∧ o.dict = none ∧ o.data = .seq its n ∧ its.size ≤ sizeLine ∧ Vals xs its.toList
noncomputable def SqT (K : PySem.W.Frag) (H : Hp) (a : Addr) (xs : List V) : Prop :=
  Rd H a (.tup xs) ∨
    ∃ (o : Obj) (its : Array Value) (n : Nat), K.lookup a = some o ∧ o.cls = .type "tuple" ∧ o.data = .seq its n ∧ its.size ≤ sizeLine ∧ Vals xs its.toList
noncomputable def absV : Value → Option V
  | .none => some .non
  | .bool b => some (.bl b)
  | .int i _ => some (.int i)
  | .str x _ => some (.str x)
  | .bytes b _ => some (.byt b)
  | .float b _ => some (.flt b)
  | .ref a => some (.ref a)
  | .type n => some (.ty n)
  | _ => none
theorem RelV.abs {x : V} {u : Value} (r : RelV x u) : absV u = some x := by
  cases x with
  | non => cases r; rfl
  | bl _ => cases r; rfl
  | int _ => obtain ⟨t, rfl⟩ := r; rfl
  | str _ => obtain ⟨t, rfl⟩ := r; rfl
  | byt _ => obtain ⟨t, rfl⟩ := r; rfl
  | flt _ => obtain ⟨t, rfl⟩ := r; rfl
  | ref _ => cases r; rfl
  | ty _ => cases r; rfl
theorem RelV.inj {x y : V} {u : Value} (r : RelV x u) (q : RelV y u) : x = y := Option.some.inj (r.abs.symm.trans q.abs)
theorem Vals.inj : ∀ {xs ys : List V} {us : List Value}, Vals xs us → Vals ys us → xs = ys
  | _, _, _, .nil, .nil => rfl
  | _, _, _, .cons r t, .cons r' t' => by rw [r.inj r', Vals.inj t t']
section
variable {X : Cx} {pins : List (Addr × Obj)} {σ : St} {H : Hp} {s : Shared} {a : Addr} {xs ys : List V}
theorem SqL.of {K : PySem.W.Frag} (h : H a = some (.lst xs)) : SqL K H a xs := .inl (.inl h)
theorem SqT.of {K : PySem.W.Frag} (h : H a = some (.tup xs)) : SqT K H a xs := .inl (.inl h)
theorem Inv.list (I : Inv X pins σ H s) (h : SqL X.K H a xs) : ∃ its : List Value, Vals xs its ∧ PlainL s.heap a its.toArray ∧ xs.length ≤ sizeLine := by
  rcases h with h | ⟨o, its, n, hk, hc, hd, hs, hz, r⟩
  · obtain ⟨z, its, n, r, e⟩ := h.ok I.hok
    exact ⟨its, r, ⟨_, n, e, rfl, rfl, rfl⟩, z⟩
  · refine ⟨its.toList, r, ⟨o, n, I.kIn a o hk, hc, hd, by simpa using hs⟩, ?_⟩
    have e := r.length
    simp only [Array.length_toList] at e
    omega
theorem Inv.tuple (I : Inv X pins σ H s) (h : SqT X.K H a xs) : ∃ its : List Value, Vals xs its ∧ IsTup s.heap a its.toArray ∧ xs.length ≤ sizeLine := by
  rcases h with h | ⟨o, its, n, hk, hc, hs, hz, r⟩
  · obtain ⟨z, its, r, p⟩ := h.ok I.hok
    exact ⟨its, r, p, z⟩
  · refine ⟨its.toList, r, ⟨o, I.kIn a o hk, hc, n, by simpa using hs⟩, ?_⟩
    have e := r.length
    simp only [Array.length_toList] at e
    omega
theorem Inv.list_inj (I : Inv X pins σ H s) (h : SqL X.K H a xs) (h' : SqL X.K H a ys) : xs = ys := by
  obtain ⟨its, r, ⟨o, n, e, _, _, d⟩, _⟩ := I.list h
  obtain ⟨its', r', ⟨o', n', e', _, _, d'⟩, _⟩ := I.list h'
  rw [e] at e'; cases e'
  rw [d] at d'
  injection d' with d1 _
  have : its = its' := by simpa using congrArg Array.toList d1
  subst this
  exact r.inj r'
theorem Inv.tuple_inj (I : Inv X pins σ H s) (h : SqT X.K H a xs) (h' : SqT X.K H a ys) : xs = ys := by
  obtain ⟨its, r, ⟨o, e, _, n, d⟩, _⟩ := I.tuple h
  obtain ⟨its', r', ⟨o', e', _, n', d'⟩, _⟩ := I.tuple h'
  rw [e] at e'; cases e'
  rw [d] at d'
  injection d' with d1 _
  have : its = its' := by simpa using congrArg Array.toList d1
  subst this
  exact r.inj r'
end
noncomputable abbrev Cx.wish (X : Cx) (E : Value → Shared → Prop) : Cx := { X with xe := E }
noncomputable abbrev Cx.nox (X : Cx) : Cx := X.wish fun _ _ => False
theorem Cx.Ok.wish {X : Cx} (ok : X.Ok) (E : Value → Shared → Prop) : (X.wish E).Ok :=
  ⟨ok.mod, ok.kind, ok.glob, ok.blt, ok.above, ok.inj, ok.has, ok.cab, ok.hd, ok.frames, ok.stk, ok.exf, ok.bs, ok.bsz, ok.noex, ok.exfs, ok.funs, ok.frf⟩
theorem Cx.Ok.unwish {X : Cx} {E : Value → Shared → Prop} (ok : (X.wish E).Ok) : X.Ok :=
  ⟨ok.mod, ok.kind, ok.glob, ok.blt, ok.above, ok.inj, ok.has, ok.cab, ok.hd, ok.frames, ok.stk, ok.exf, ok.bs, ok.bsz, ok.noex, ok.exfs, ok.funs, ok.frf⟩
section
variable {X : Cx} {pins : List (Addr × Obj)} {σ : St} {H : Hp} {s : Shared} {E : Value → Shared → Prop}
theorem Inv.wish (I : Inv X pins σ H s) (E : Value → Shared → Prop) : Inv (X.wish E) pins σ H s := ⟨I.ok.wish E, I.os, I.bare, I.base, I.loc, I.cell, I.free, I.freeC, I.pin, I.hok, I.len⟩
theorem Inv.unwish (I : Inv (X.wish E) pins σ H s) : Inv X pins σ H s := ⟨I.ok.unwish, I.os, I.bare, I.base, I.loc, I.cell, I.free, I.freeC, I.pin, I.hok, I.len⟩
theorem SP.unwish {D : Ends} {f : Flow} {s' : Shared} (h : SP (X.wish E) pins D f s') : SP X pins D f s' := by
  cases f with
  | next => obtain ⟨σ', H', I, q⟩ := h; exact ⟨σ', H', I.unwish, q⟩
  | brk => obtain ⟨σ', H', I, q⟩ := h; exact ⟨σ', H', I.unwish, q⟩
  | cont => obtain ⟨σ', H', I, q⟩ := h; exact ⟨σ', H', I.unwish, q⟩
  | ret u => obtain ⟨v, σ', H', I, r, q⟩ := h; exact ⟨v, σ', H', I.unwish, r, q⟩
theorem PSs.nox {st : List Stmt} {t : TS} (h : PSs X.nox st t) : PSs X st t := fun pins s σ H D I hw =>
  wpAny_mono (h pins s σ H D (I.wish _) hw) (fun _ _ q => q.unwish) fun _ _ z => False.elim z
end
section
variable {X : Cx} {st : Stmt} {rest : List Stmt} {t u : TS} {e : Expr} {te : TE} {pos : Pos}
noncomputable def tNext : TS := fun D σ H => D.nx σ H
noncomputable def tSeq (t u : TS) : TS := fun D σ H => t { D with nx := u D } σ H
theorem pss_nil : PSs X [] tNext := fun _ _ σ H _ I h => wpAny_execs_nil ⟨σ, H, I, h⟩
theorem pss_cons (h1 : PS X st t) (h2 : PSs X rest u) : PSs X (st :: rest) (tSeq t u) := by
  intro pins s σ H D I h
  refine wpAny_execs_cons (thn (h1 pins s σ H { D with nx := u D } I h) fun f s1 q => ?_)
  cases f with
  | next =>
    obtain ⟨σ', H', I', q⟩ := q
    exact h2 pins s1 σ' H' D I' q
  | ret v => exact q
  | brk => exact q
  | cont => exact q
theorem Inv.quiet {pins : List (Addr × Obj)} {σ : St} {H : Hp} {s : Shared} (I : Inv X pins σ H s) : interactive X.env = false := by simp [interactive, I.ok.kind]
noncomputable def tDrop (te : TE) : TS := fun D σ H => te σ H fun _ H1 => D.nx σ H1
theorem ps_expr (he : PE X e te) (hs : swapsWith e none pos.line X.env = pure false := by rfl) : PS X (.Expr e pos) (tDrop te) := by
  intro pins s σ H D I h
  exact wpAny_Expr_any (thn (he pins s σ H _ I h) fun v s1 ⟨x, H1, I1, r1, q1⟩ => ⟨σ, H1, I1, q1⟩) I.quiet hs
noncomputable def tRet (te : TE) : TS := fun D σ H => te σ H D.rt
theorem ps_ret (he : PE X e te) : PS X (.Return (some e) pos) (tRet te) := by
  intro pins s σ H D I h
  exact wpAny_Return_some (thn (he pins s σ H _ I h) fun v s1 ⟨x, H1, I1, r1, q1⟩ => ⟨x, σ, H1, I1, r1, q1⟩)
noncomputable def tIfS (c : TT) (t u : TS) : TS := fun D σ H => c σ H fun b H1 => if b = true then t D σ H1 else u D σ H1
theorem ps_if {c : Expr} {a b : List Stmt} {tc : TT} (hc : PT X c tc) (ha : PSs X a t) (hb : PSs X b u) : PS X (.If c a b pos) (tIfS tc t u) := by
  intro pins s σ H D I h
  refine wpAny_If (thn (hc pins s σ H _ I h) fun d s1 ⟨H1, I1, q1⟩ => ?_)
  cases d with
  | true => exact ha pins s1 σ H1 D I1 q1
  | false => exact hb pins s1 σ H1 D I1 q1
end
noncomputable abbrev TG := V → St → Hp → (St → Hp → Prop) → Prop
noncomputable abbrev TGs := List V → St → Hp → (St → Hp → Prop) → Prop
noncomputable def PG (X : Cx) (target : Expr) (t : TG) : Prop :=
  ∀ (pins : List (Addr × Obj)) (s : Shared) (σ : St) (H : Hp) (v : V) (u : Value) (Q : St → Hp → Prop), Inv X pins σ H s → RelV v u → t v σ H Q →
    wpAny (model X.prog X.w) X.A (assign target X.env u) (fun _ s' => ∃ σ' H', Inv X pins σ' H' s' ∧ Q σ' H') X.xe s
noncomputable def PGs (X : Cx) (ts : List Expr) (t : TGs) : Prop :=
  ∀ (pins : List (Addr × Obj)) (s : Shared) (σ : St) (H : Hp) (vs : List V) (us : List Value) (Q : St → Hp → Prop), Inv X pins σ H s → Vals vs us → t vs σ H Q →
    wpAny (model X.prog X.w) X.A (assignInOrder ((assignEach ts X.env).map (·.2)) us) (fun _ s' => ∃ σ' H', Inv X pins σ' H' s' ∧ Q σ' H') X.xe s
noncomputable abbrev TSet := V → V → V → Hp → (Hp → Prop) → Prop
noncomputable def PSet (X : Cx) (t : TSet) : Prop :=
  ∀ (pins : List (Addr × Obj)) (s : Shared) (σ : St) (H : Hp) (o i v : V) (ov iv u : Value) (Q : Hp → Prop), Inv X pins σ H s → RelV o ov → RelV i iv → RelV v u → t o i v H Q →
    wpAny (model X.prog X.w) X.A (setItem ov iv u) (fun _ s' => ∃ H', Inv X pins σ H' s' ∧ Q H') X.xe s
section
variable {X : Cx} {pos : Pos}
noncomputable def gName (i : Nat) : TG := fun v σ H Q => Q (σ.set i (some v)) H
theorem pg_name {i : Nat} {x : Str} (hN : X.N.Nodup) (hi : X.N[i]? = some x) (hx : Loc X.env.scope x) (hf : X.fn x = true ∨ X.env.scope.names.lookup x = some .local := by first | exact .inl rfl | exact .inr rfl | assumption) : PG X (.Name x pos) (gName i) := by
  intro pins s σ H v u Q I r h
  exact wpAny_assign_Name (store_ok I hN hi hx r (fun s' I' => ⟨_, H, I', h⟩) hf)
noncomputable def gNil : TGs := fun vs σ H Q => vs = [] ∧ Q σ H
noncomputable def gCons (t : TG) (u : TGs) : TGs := fun vs σ H Q => ∃ v r, vs = v :: r ∧ t v σ H fun σ' H' => u r σ' H' Q
theorem pgs_nil : PGs X [] gNil := by
  intro pins s σ H vs us Q I r h
  obtain ⟨e, h⟩ := h
  subst e
  cases r
  exact assignInOrder_nil ⟨σ, H, I, h⟩
theorem pgs_cons {e : Expr} {es : List Expr} {t : TG} {u : TGs} (h1 : PG X e t) (h2 : PGs X es u)
    (hs : (assignEach (e :: es) X.env).map (·.2) = assign e X.env :: (assignEach es X.env).map (·.2) := by rfl) : PGs X (e :: es) (gCons t u) := by
  intro pins s σ H vs us Q I r h
  obtain ⟨v, vr, e1, h⟩ := h
  subst e1
  cases r with
  | cons r rr =>
    rw [hs]
    refine assignInOrder_cons (thn (h1 pins s σ H _ _ _ I r h) fun _ s1 ⟨σ1, H1, I1, q1⟩ => ?_)
    exact h2 pins s1 σ1 H1 _ _ Q I1 rr q1
noncomputable def gTup (K : PySem.W.Frag) (n : Nat) (t : TGs) : TG := fun v σ H Q => ∃ a xs, v = .ref a ∧ SqT K H a xs ∧ xs.length = n ∧ t xs σ H Q
theorem pg_tup {es : List Expr} {k : Nat} {t : TGs} {n : Nat} (hc : X.calm = true) (h : PGs X es t)
    (hn : (assignEach es X.env).length = n := by rfl) (hst : (assignEach es X.env).findIdx? (·.1) = none := by rfl) : PG X (.Tuple es k pos) (gTup X.K n t) := by
  intro pins s σ H v u Q I r hw
  obtain ⟨a, xs, e1, hq, hl, hw⟩ := hw
  subst e1
  cases r
  obtain ⟨its, rv, ht, hz⟩ := I.tuple hq
  refine assign_Tuple_tuple (I.ok.hd hc) ht (by simp [hn, ← hl, rv.length]) hst fun h' hx => ?_
  have I1 : Inv X pins σ H { s with heap := h' } := I.kept (t' := s.toks) fun b o e => hx b o (Nat.ne_of_lt (Heap.lt_size e)) e
  exact h pins _ σ H xs _ Q I1 (by simpa using rv) hw
noncomputable def gSub (to ti : TE) (t : TSet) : TG := fun v σ H Q => to σ H fun o H1 => ti σ H1 fun i H2 => t o i v H2 fun H3 => Q σ H3
theorem pg_sub {o i : Expr} {to ti : TE} {t : TSet} (ho : PE X o to) (hi : PE X i ti) (hs : PSet X t)
    (ha : ∀ v, assign (.Subscript o i pos) X.env v = (do
      let ov ← holding [v] (eval o X.env)
      let iv ← holding [v, ov] (eval i X.env)
      standAt pos
      holding [v, ov, iv] (setItem ov iv v)
      release [v, ov, iv] []) := by intro _; rfl) : PG X (.Subscript o i pos) (gSub to ti t) := by
  intro pins s σ H v u Q I r h
  rw [ha]
  refine wpAny_bind (wpAny_holding (thn (ho pins s σ H _ I h) fun ov s1 ⟨x, H1, I1, r1, q1⟩ => ?_))
  refine wpAny_bind (wpAny_holding (thn (hi pins s1 σ H1 _ I1 q1) fun iv s2 ⟨y, H2, I2, r2, q2⟩ => ?_))
  refine wpAny_bind (wpAny_standAt (wpAny_bind (wpAny_holding (thn (hs pins s2 σ H2 x y v ov iv u _ I2 r1 r2 r q2) fun _ s3 ⟨H3, I3, q3⟩ => ?_))))
  exact wpAny_release ⟨σ, H3, I3, q3⟩
noncomputable def tAsg (te : TE) (g : TG) : TS := fun D σ H => te σ H fun x H1 => g x σ H1 D.nx
theorem ps_asg {tg e : Expr} {te : TE} {g : TG} (he : PE X e te) (hg : PG X tg g) (hs : swapsWithSole [tg] e pos.line X.env = pure false := by rfl) (hw : swappedStores [tg] e X.env = pure none := by rfl)
    (h1 : (assignEach [tg] X.env).map (·.2) = [assign tg X.env] := by rfl) : PS X (.Assign [tg] e pos) (tAsg te g) := by
  intro pins s σ H D I h
  refine wpAny_Assign_stores (thn (he pins s σ H _ I h) fun v s1 ⟨x, H1, I1, r1, q1⟩ => ?_) hs hw
  rw [h1]
  exact thn (hg pins s1 σ H1 x v _ I1 r1 q1) fun _ s2 q => q
theorem ps_set {i : Nat} {x : Str} {e : Expr} {te : TE} {pos' : Pos} (hN : X.N.Nodup) (hi : X.N[i]? = some x) (hx : Loc X.env.scope x) (he : PE X e te) (hs : swapsWith e (some (.Name x pos')) pos.line X.env = pure false := by rfl) (hf : X.fn x = true ∨ X.env.scope.names.lookup x = some .local := by first | exact .inl rfl | exact .inr rfl | assumption) :
    PS X (.Assign [.Name x pos'] e pos) (tAsg te (gName i)) := by
  intro pins s σ H D I h
  refine wpAny_Assign_Name (thn (he pins s σ H _ I h) fun v s1 ⟨y, H1, I1, r1, q1⟩ => ?_) hs
  exact store_ok I1 hN hi hx r1 (fun s2 I2 => ⟨_, H1, I2, q1⟩) hf
noncomputable def tPar (i j : Nat) (ta : TA) : TS := fun D σ H => ta σ H fun vs H1 => ∃ v w, vs = [v, w] ∧ D.nx ((σ.set i (some v)).set j (some w)) H1
theorem ps_par {i j : Nat} {x y : Str} {a b : Expr} {ta : TA} {px py pt : Pos} {kt k2 pt2} (hc : X.calm = true) (hN : X.N.Nodup) (hi : X.N[i]? = some x) (hj : X.N[j]? = some y) (hij : i ≠ j)
    (hx : X.env.scope.names.lookup x = some .local) (hy : X.env.scope.names.lookup y = some .local) (ha : PA X [a, b] ta)
    (hw : swappedStores [.Tuple [.Name x px, .Name y py] kt pt] (.Tuple [a, b] k2 pt2) X.env = pure (some [x, y]))
    (hs : swapsWithSole [.Tuple [.Name x px, .Name y py] kt pt] (.Tuple [a, b] k2 pt2) pos.line X.env = pure false := by rfl) :
    PS X (.Assign [.Tuple [.Name x px, .Name y py] kt pt] (.Tuple [a, b] k2 pt2) pos) (tPar i j ta) := by
  intro pins s σ H D I h
  rw [exec_Assign_arm]
  refine wpAny_bind (wpAny_standAt ?_)
  rw [hs]
  refine wpAny_bind (wpAny_pure ?_)
  rw [if_neg (by decide)]
  refine wpAny_bind (Tuple_ (thn (ha _ pins s σ H _ I h) fun us s1 ⟨vs, H1, I1, r1, q1⟩ => ?_))
  obtain ⟨v, w, e1, q1⟩ := q1
  subst e1
  obtain ⟨u1, u2, rfl, rv, rw'⟩ : ∃ u1 u2, us = [u1, u2] ∧ RelV v u1 ∧ RelV w u2 := by
    cases r1 with
    | cons p q =>
      cases q with
      | cons p' q' =>
        cases q'
        exact ⟨_, _, rfl, p, p'⟩
  refine wpAny_newObj_type ?_ (by show 2 ≤ sizeLine; decide)
  have I2 : Inv X pins σ H1 { s1 with heap := s1.heap.push { cls := .type "tuple", data := .seq [u1, u2].toArray } } := I1.kept (t' := s1.toks) fun b o e => Heap.get?_push_of_some _ e
  rw [hw]
  refine wpAny_bind (wpAny_pure ?_)
  show wpAny (model X.prog X.w) X.A (do rule "assign.swapped-stores"; let items ← unpackItems (.ref s1.heap.objs.size) 2 none; assignInOrder [fun v => bindName X.env y v, fun v => bindName X.env x v] items.reverse; pure Flow.next) _ _ _
  refine wpAny_bind (wpAny_rule (wpAny_bind (unpackItems_tuple (items := #[u1, u2]) (I.ok.hd hc) (IsTup.new s1.heap _) fun h' hx' => ?_)))
  have I3 := I2.kept (h' := h') (t' := s1.toks) fun b o e => hx' b o (Nat.ne_of_lt (Heap.lt_size e)) e
  show wpAny _ _ (assignInOrder [fun v => bindName X.env y v, fun v => bindName X.env x v] [u2, u1] >>= fun _ => pure Flow.next) _ _ _
  refine wpAny_bind (assignInOrder_cons (wpAny_bindName (store_ok I3 hN hj (.inl hy) rw' (fun s2 I4 => ?_) (.inr hy))))
  refine assignInOrder_cons (wpAny_bindName (store_ok I4 hN hi (.inl hx) rv (fun s3 I5 => assignInOrder_nil (wpAny_pure ?_)) (.inr hx)))
  rw [List.set_comm _ _ (Ne.symm hij)] at I5
  exact ⟨_, H1, I5, q1⟩
end
section
variable {X : Cx} {pos : Pos}
noncomputable def tWhile (c : TT) (tb : TS) : TS := fun D σ H => ∃ W : Nat → St → Hp → Prop, (∃ m, W m σ H) ∧ ∀ m σ H, W m σ H →
  c σ H fun b H1 => if b = true then ∃ N : St → Hp → Prop, (∀ σ' H', N σ' H' → ∃ m', m' < m ∧ W m' σ' H') ∧ tb { D with nx := N, ct := N, bk := D.nx } σ H1 else D.nx σ H1
theorem ps_while {c : Expr} {body : List Stmt} {tc : TT} {tb : TS} (hp : PassesOwn (model X.prog X.w) X.A X.env X.xe) (hc : PT X c tc) (hb : PSs X body tb) : PS X (.While c body [] pos) (tWhile tc tb) := by
  intro pins s σ H D I h
  obtain ⟨W, ⟨m0, w0⟩, turn⟩ := h
  refine wpAny_While (codeAny_whileLoop (fun n s' => ∃ σ' H', Inv X pins σ' H' s' ∧ W n σ' H') ?_ m0 ⟨σ, H, I, w0⟩)
  rintro n s1 ⟨σ1, H1, I1, w1⟩
  refine wpAny_passesOwn hp (thn (hc pins s1 σ1 H1 _ I1 (turn n σ1 H1 w1)) fun b s2 ⟨H2, I2, q2⟩ => ?_)
  cases b with
  | true =>
    obtain ⟨N, hN, q2⟩ := q2
    rw [if_pos rfl]
    refine wpAny_passesOwn hp (thn (hb pins s2 σ1 H2 _ I2 q2) fun f s3 q3 => ?_)
    cases f with
    | next =>
      obtain ⟨σ3, H3, I3, n3⟩ := q3
      obtain ⟨m', hm, w3⟩ := hN σ3 H3 n3
      exact ⟨m', hm, σ3, H3, I3, w3⟩
    | cont =>
      obtain ⟨σ3, H3, I3, n3⟩ := q3
      obtain ⟨m', hm, w3⟩ := hN σ3 H3 n3
      exact ⟨m', hm, σ3, H3, I3, w3⟩
    | brk => exact q3
    | ret v => exact q3
  | false =>
    rw [if_neg Bool.false_ne_true]
    exact wpAny_execs_nil ⟨σ1, H2, I2, q2⟩
end
structure It where
  go : Nat → Hp → Prop
  yld : Nat → Hp → V → Hp → Prop
  stop : Nat → Hp → Prop
noncomputable def FpOk (X : Cx) (pins : List (Addr × Obj)) (H : Hp) (b : Addr) : Prop :=
  H b = none ∧ b ≠ X.env.locals ∧ b ∉ X.fs ∧ (b ∈ X.ex ∨ X.s₀.heap.objs.size ≤ b) ∧ (∀ x c, X.env.cells.lookup x = some c → c ≠ b) ∧ ∀ p ∈ X.pn ++ pins, p.1 ≠ b
theorem Inv.fpOk {X : Cx} {pins : List (Addr × Obj)} {σ : St} {H H' : Hp} {s : Shared} {b : Addr} (I : Inv X pins σ H s) (hb : s.heap.objs.size ≤ b) (hn : H' b = none) : FpOk X pins H' b := by
  refine ⟨hn, Nat.ne_of_gt (Nat.lt_of_lt_of_le I.lt hb), I.nofs hb, .inr (Nat.le_trans I.sz hb), fun x c e z => ?_, fun p hp z => ?_⟩
  · obtain ⟨v, q⟩ := I.cell x c e
    exact absurd (Nat.lt_of_lt_of_le q.lt (by rw [z]; exact hb)) (Nat.lt_irrefl _)
  · exact absurd (Nat.lt_of_lt_of_le (Heap.lt_size (I.pin p hp).1) (by rw [z]; exact hb)) (Nat.lt_irrefl _)
structure Turn (P : Program) (w : World) (K : PySem.W.Frag) (tg : Expr) (J : It) (fp : List Addr) (it : Addr) (tn : Nat → Heap → Prop) : Prop where
  mem : it ∈ fp
  obj : ∀ i h, tn i h → ∀ b ∈ fp, ∃ o, h.get? b = some o ∧ ∀ v, o.data ≠ .cell v
  keep : ∀ i h h', tn i h → (∀ b ∈ fp, ∀ o, h.get? b = some o → h'.get? b = some o) → tn i h'
  item : ∀ (X : Cx), X.prog = P → X.w = w → X.K = K → X.calm = true → ∀ (i : Nat) (pins : List (Addr × Obj)) (s : Shared) (σ : St) (H : Hp) (E : Value → Shared → Prop), Inv X pins σ H s → (∀ b ∈ fp, FpOk X pins H b) → tn i s.heap → J.go i H →
    wpAny (model P w) X.A (pyNext (.ref it)) (fun r s1 => ∃ u, r = some u ∧
      wpAny (model P w) X.A (letOwnedTupleGo tg (.ref it) u) (fun _ s2 => ∃ x H', Inv X pins σ H' s2 ∧ RelV x u ∧ J.yld i H x H' ∧ tn (i + 1) s2.heap ∧ ∀ b ∈ fp, H' b = none) E s1) E s
  done : ∀ (X : Cx), X.prog = P → X.w = w → X.K = K → X.calm = true → ∀ (i : Nat) (pins : List (Addr × Obj)) (s : Shared) (σ : St) (H : Hp) (E : Value → Shared → Prop), Inv X pins σ H s → (∀ b ∈ fp, FpOk X pins H b) → tn i s.heap → J.stop i H →
    wpAny (model P w) X.A (pyNext (.ref it)) (fun r s1 => r = none ∧ Inv X pins σ H s1) E s
  self : ∀ (A : Around) (i : Nat) (s : Shared) (Q : Value → Shared → Prop) (E : Value → Shared → Prop), tn i s.heap → Q (.ref it) s → wpAny (model P w) A (pyIter (.ref it)) Q E s
noncomputable abbrev TI := St → Hp → (It → Hp → Prop) → Prop
noncomputable def PIE (X : Cx) (pins : List (Addr × Obj)) (σ : St) (tg : Expr) (R : It → Hp → Prop) (itv : Value) (s2 : Shared) : Prop :=
  ∃ (it : Addr) (fp : List Addr) (tn : Nat → Heap → Prop) (J : It) (H' : Hp), itv = .ref it ∧ Inv X pins σ H' s2 ∧ Turn X.prog X.w X.K tg J fp it tn ∧ tn 0 s2.heap ∧ (∀ b ∈ fp, FpOk X pins H' b) ∧ R J H'
noncomputable def PI (X : Cx) (tg iter : Expr) (wi : TI) : Prop :=
  ∀ (pins : List (Addr × Obj)) (s : Shared) (σ : St) (H : Hp) (R : It → Hp → Prop), Inv X pins σ H s → wi σ H R →
    wpAny (model X.prog X.w) X.A (eval iter X.env) (fun v s1 => wpAny (model X.prog X.w) X.A (pyIter v) (PIE X pins σ tg R) X.xe s1) X.xe s
theorem go_of {M : Model} {A : Around} {E : Value → Shared → Prop} {s : Shared} {tg : Expr} {it : Addr} {u : Value} {o : Obj} {n : String} {vs : Array Value} {Q : Unit → Shared → Prop} (ho : s.heap.get? it = some o) (hc : o.cls = .type n) (hd : o.data = .fields vs)
    (hn : ["enumerate", "zip", "dict_itemiterator", "dict_reverseitemiterator", "odict_iterator", "itertools.zip_longest", "itertools.pairwise"].contains n = false) (hQ : Q () s) : wpAny M A (letOwnedTupleGo tg (.ref it) u) Q E s := by
  unfold letOwnedTupleGo
  cases tg <;> first
    | exact wpAny_pure hQ
    | (cases u <;> first
        | exact wpAny_pure hQ
        | (refine wpAny_bind (wpAny_load ho ?_)
           rw [hc, hd]
           show wpAny M A (if (["enumerate", "zip", "dict_itemiterator", "dict_reverseitemiterator", "odict_iterator", "itertools.zip_longest", "itertools.pairwise"].contains n && vs[0]? == some (rawInt _)) = true then _ else _) Q E s
           rw [if_neg (by intro h; rw [hn, Bool.false_and] at h; cases h)]
           exact wpAny_pure hQ))
noncomputable def Itl (K : PySem.W.Frag) (a : Addr) : It :=
  ⟨fun i H => ∃ xs x, SqL K H a xs ∧ xs[i]? = some x, fun i H x H' => H' = H ∧ ∀ xs, SqL K H a xs → xs[i]? = some x, fun i H => ∃ xs, SqL K H a xs ∧ xs.length ≤ i⟩
noncomputable def Itt (K : PySem.W.Frag) (a : Addr) : It :=
  ⟨fun i H => ∃ xs x, SqT K H a xs ∧ xs[i]? = some x, fun i H x H' => H' = H ∧ ∀ xs, SqT K H a xs → xs[i]? = some x, fun i H => ∃ xs, SqT K H a xs ∧ xs.length ≤ i⟩
noncomputable def Itr (lo : Int) (n : Nat) : It := ⟨fun i _ => i < n, fun i H x H' => H' = H ∧ x = .int (lo + i), fun i _ => n ≤ i⟩
theorem turn_list {P : Program} {w : World} {K : PySem.W.Frag} {tg : Expr} (a it : Addr) : Turn P w K tg (Itl K a) [it] it (fun i h => h.IsListIter it a i) where
  mem := by simp
  obj := fun i h st b hb => by
    have e : b = it := by simpa using hb
    subst e
    obtain ⟨o, e, c, d⟩ := st
    exact ⟨o, e, fun v z => by rw [d] at z; cases z⟩
  keep := fun i h h' st k => st.at fun o e => k it (by simp) o e
  item := by
    intro X hP hw hK hc i pins s σ H E I hf st hg
    subst hP hw hK
    obtain ⟨xs, x, hq, hx⟩ := hg
    obtain ⟨its, rv, p, hz⟩ := I.list hq
    obtain ⟨u, hu, ru⟩ := rv.get hx
    obtain ⟨f0, f1, f2, f3, f4, f5⟩ := hf it (by simp)
    refine wpAny_pyNext_list_item st p.isList (x := u) (by simpa using hu) fun h' st' sb => ?_
    have I1 : Inv X pins σ H { s with heap := h' } := I.turned (t' := s.toks) (fun b o hb e => (sb.2 b hb).trans e) f0 f1 f3 f4 f5
    obtain ⟨o, e, c, d⟩ := id st'
    exact ⟨u, rfl, go_of (s := { s with heap := h' }) e c d (by decide) ⟨x, H, I1, ru, ⟨rfl, fun ys hy => by rw [I.list_inj hy hq]; exact hx⟩, st', fun b hb => (hf b hb).1⟩⟩
  done := by
    intro X hP hw hK hc i pins s σ H E I hf st hg
    subst hP hw hK
    obtain ⟨xs, hq, hx⟩ := hg
    obtain ⟨its, rv, p, hz⟩ := I.list hq
    obtain ⟨f0, f1, f2, f3, f4, f5⟩ := hf it (by simp)
    have hl := rv.length
    exact wpAny_pyNext_list_end (I.ok.hd hc) st p.isList (by simp; omega) fun h' eb => ⟨rfl, I.turned (t' := s.toks) (fun b o hb e => eb b o hb e) f0 f1 f3 f4 f5⟩
  self := fun _ _ _ _ _ st h => wpAny_pyIter_listiter st h
theorem turn_tuple {P : Program} {w : World} {K : PySem.W.Frag} {tg : Expr} (a it : Addr) : Turn P w K tg (Itt K a) [it] it (fun i h => h.IsTupleIter it a i) where
  mem := by simp
  obj := fun i h st b hb => by
    have e : b = it := by simpa using hb
    subst e
    obtain ⟨o, e, c, d⟩ := st
    exact ⟨o, e, fun v z => by rw [d] at z; cases z⟩
  keep := fun i h h' st k => st.at fun o e => k it (by simp) o e
  item := by
    intro X hP hw hK hc i pins s σ H E I hf st hg
    subst hP hw hK
    obtain ⟨xs, x, hq, hx⟩ := hg
    obtain ⟨its, rv, p, hz⟩ := I.tuple hq
    obtain ⟨u, hu, ru⟩ := rv.get hx
    obtain ⟨f0, f1, f2, f3, f4, f5⟩ := hf it (by simp)
    refine wpAny_pyNext_tuple_item st (show s.heap.IsTuple a its.toArray from p) (x := u) (by simpa using hu) fun h' st' sb => ?_
    have I1 : Inv X pins σ H { s with heap := h' } := I.turned (t' := s.toks) (fun b o hb e => (sb.2 b hb).trans e) f0 f1 f3 f4 f5
    obtain ⟨o, e, c, d⟩ := id st'
    exact ⟨u, rfl, go_of (s := { s with heap := h' }) e c d (by decide) ⟨x, H, I1, ru, ⟨rfl, fun ys hy => by rw [I.tuple_inj hy hq]; exact hx⟩, st', fun b hb => (hf b hb).1⟩⟩
  done := by
    intro X hP hw hK hc i pins s σ H E I hf st hg
    subst hP hw hK
    obtain ⟨xs, hq, hx⟩ := hg
    obtain ⟨its, rv, p, hz⟩ := I.tuple hq
    obtain ⟨f0, f1, f2, f3, f4, f5⟩ := hf it (by simp)
    have hl := rv.length
    exact wpAny_pyNext_tuple_end (I.ok.hd hc) st (show s.heap.IsTuple a its.toArray from p) (by simp; omega) fun h' eb => ⟨rfl, I.turned (t' := s.toks) (fun b o hb e => eb b o hb e) f0 f1 f3 f4 f5⟩
  self := fun _ _ _ _ _ st h => wpAny_pyIter_tupleiter st h
theorem turn_range {P : Program} {w : World} {K : PySem.W.Frag} {tg : Expr} (it : Addr) (lo : Int) (n : Nat) : Turn P w K tg (Itr lo n) [it] it (fun i h => IsRangeIter h it (lo + (i : Nat) * 1) ((n : Int) - (i : Nat)) 1) where
  mem := by simp
  obj := fun i h st b hb => by
    have e : b = it := by simpa using hb
    subst e
    exact ⟨_, st, fun v z => by
      have z' : Data.fields _ = Data.cell v := z
      cases z'⟩
  keep := fun i h h' st k => k it (by simp) _ st
  item := by
    intro X hP hw hK hc i pins s σ H E I hf st hg
    subst hP hw hK
    obtain ⟨f0, f1, f2, f3, f4, f5⟩ := hf it (by simp)
    have W := Walks.range (prog := X.prog) (w := X.w) (I.ok.hd hc) it lo 1 n
    refine W.item i s _ _ hg st fun v h' tk hv st' kk => ?_
    obtain ⟨t, rfl⟩ := hv
    have I1 : Inv X pins σ H { s with heap := h', toks := tk } := I.turned (fun b o hb e => kk b o (by simpa using hb) e) f0 f1 f3 f4 f5
    refine ⟨_, rfl, go_of (s := { s with heap := h', toks := tk }) (n := "range_iterator") st' rfl rfl (by decide) ⟨.int (lo + i), H, I1, ⟨t, ?_⟩, ⟨rfl, rfl⟩, st', fun b hb => (hf b hb).1⟩⟩
    rw [Int.mul_one]
  done := by
    intro X hP hw hK hc i pins s σ H E I hf st hg
    subst hP hw hK
    obtain ⟨f0, f1, f2, f3, f4, f5⟩ := hf it (by simp)
    exact wpAny_pyNext_range_end (I.ok.hd hc) st (by have : n ≤ i := hg; omega) fun h' eb => ⟨rfl, I.turned (t' := s.toks) (fun b o hb e => eb b o hb e) f0 f1 f3 f4 f5⟩
  self := fun _ _ _ _ _ st h => wpAny_pyIter_rangeiter st h
end L2
namespace L2
open PySem PySem.Spec PyProof.Rows
section
variable {X : Cx} {tg : Expr}
theorem range_it {pins : List (Addr × Obj)} {σ : St} {H : Hp} {s : Shared} {R : It → Hp → Prop} {E : Value → Shared → Prop} {lo hi : Int} {t u v : Tok} {tk : Nat} (I : Inv X pins σ H s) (h1 : -(2 ^ 62) ≤ lo) (h2 : lo < 2 ^ 62) (h3 : -(2 ^ 62) ≤ hi) (h4 : hi < 2 ^ 62)
    (q : R (Itr lo (hi - lo).toNat) H) : wpAny (model X.prog X.w) X.A (pyIter (.ref s.heap.objs.size)) (PIE X pins σ tg R) E { s with heap := s.heap.push { cls := .type "range", data := .fields #[.int lo t, .int hi u, .int 1 v] }, toks := tk } := by
  refine wpAny_pyIter_range (IsRange.new ..) (small_one h1 h2 h3 h4) ?_
  have I1 : Inv X pins σ H { s with heap := s.heap.push { cls := .type "range", data := .fields #[.int lo t, .int hi u, .int 1 v] }, toks := tk } := I.kept fun b o e => Heap.get?_push_of_some _ e
  refine ⟨(s.heap.push { cls := .type "range", data := .fields #[.int lo t, .int hi u, .int 1 v] }).objs.size, [(s.heap.push { cls := .type "range", data := .fields #[.int lo t, .int hi u, .int 1 v] }).objs.size], _, _, H, rfl,
    I1.kept (t' := tk) fun b o e => Heap.get?_push_of_some _ e, turn_range _ lo (hi - lo).toNat, ?_, fun b hb => ?_, q⟩
  · have e1 : lo + ((0 : Nat) : Int) * 1 = lo := by simp
    have e2 : (((hi - lo).toNat : Nat) : Int) - ((0 : Nat) : Int) = Builtin.Range.rangeSize lo hi 1 := by rw [rangeSize_one]; split <;> omega
    show IsRangeIter _ _ (lo + ((0 : Nat) : Int) * 1) ((((hi - lo).toNat : Nat) : Int) - ((0 : Nat) : Int)) 1
    rw [e1, e2]
    exact Heap.get?_push_size _ rfl
  · have e : b = (s.heap.push { cls := .type "range", data := .fields #[.int lo t, .int hi u, .int 1 v] }).objs.size := by simpa using hb
    subst e
    exact I1.fpOk (Nat.le_refl _) (I1.hok.fresh (Nat.le_refl _))
noncomputable def iRng1 (ta : TA) : TI := fun σ H R => ta σ H fun vs H1 => ∃ j : Int, vs = [.int j] ∧ -(2 ^ 62) ≤ j ∧ j < 2 ^ 62 ∧ R (Itr 0 j.toNat) H1
noncomputable def iRng2 (ta : TA) : TI := fun σ H R => ta σ H fun vs H1 => ∃ i j : Int, vs = [.int i, .int j] ∧ (-(2 ^ 62) ≤ i ∧ i < 2 ^ 62 ∧ -(2 ^ 62) ≤ j ∧ j < 2 ^ 62) ∧ R (Itr i (j - i).toNat) H1
theorem pi_range1 {a : Expr} {ta : TA} {p pos : Pos} (hg : Gl X "range") (hm : X.mg "range" = none) (ha : PA X [a] ta) (hs : starEach [a] X.env = [(false, eval a X.env)] := by rfl) : PI X tg (.Call (.Name "range" p) [a] [] pos) (iRng1 ta) := by
  intro pins s σ H R I h
  refine Call_ (ld_blt I hg hm boot_range (PyProof.Rows.callWith_type1 (thn (ha pos pins s σ H _ I h) fun us s1 ⟨vs, H1, I1, r1, q1⟩ => ?_) hs rfl))
  obtain ⟨j, e, q1, q2, q⟩ := q1
  subst e
  cases r1 with
  | cons r rr =>
    cases rr
    obtain ⟨t, rfl⟩ := r
    exact call_range_1 (range_it I1 (by omega) (by omega) q1 q2 (by simpa using q))
theorem pi_range2 {a b : Expr} {ta : TA} {p pos : Pos} (hg : Gl X "range") (hm : X.mg "range" = none) (ha : PA X [a, b] ta) (hs : starEach [a, b] X.env = [(false, eval a X.env), (false, eval b X.env)] := by rfl) (hs2 : starEach [b] X.env = [(false, eval b X.env)] := by rfl) :
    PI X tg (.Call (.Name "range" p) [a, b] [] pos) (iRng2 ta) := by
  intro pins s σ H R I h
  refine Call_ (ld_blt I hg hm boot_range (PyProof.Rows.callWith_type1 (thn (ha pos pins s σ H _ I h) fun us s1 ⟨vs, H1, I1, r1, q1⟩ => ?_) (by rw [hs, hs2]) (by rw [hs2]; rfl)))
  obtain ⟨i, j, e, ⟨q1, q2, q3, q4⟩, q⟩ := q1
  subst e
  cases r1 with
  | cons r rr =>
    cases rr with
    | cons r' rr =>
      cases rr
      obtain ⟨t, rfl⟩ := r
      obtain ⟨t', rfl⟩ := r'
      exact call_range_2 (range_it I1 q1 q2 q3 q4 q)
noncomputable def tFor (wi : TI) (g : TG) (tb : TS) : TS := fun D σ H => wi σ H fun J H1 => ∃ W : Nat → Nat → St → Hp → Prop, (∃ m, W 0 m σ H1) ∧ ∀ i m σ H, W i m σ H →
  (J.stop i H ∧ D.nx σ H) ∨ (J.go i H ∧ ∃ N : St → Hp → Prop, (∀ σ' H', N σ' H' → ∃ m', m' < m ∧ W (i + 1) m' σ' H') ∧ ∀ x H', J.yld i H x H' → g x σ H' fun σ2 H2 => tb { D with nx := N, ct := N, bk := D.nx } σ2 H2)
noncomputable def pinsAt (fp : List Addr) (h : Heap) : List (Addr × Obj) := fp.filterMap fun b => (h.get? b).map fun o => (b, o)
theorem mem_pinsAt {fp : List Addr} {h : Heap} {b : Addr} {o : Obj} (hb : b ∈ fp) (e : h.get? b = some o) : (b, o) ∈ pinsAt fp h := List.mem_filterMap.mpr ⟨b, hb, by rw [e]; rfl⟩
theorem of_pinsAt {fp : List Addr} {h : Heap} {p : Addr × Obj} (hp : p ∈ pinsAt fp h) : p.1 ∈ fp ∧ h.get? p.1 = some p.2 := by
  obtain ⟨b, hb, e⟩ := List.mem_filterMap.mp hp
  cases q : h.get? b with
  | none => rw [q] at e; cases e
  | some o =>
    rw [q] at e
    have e' : (b, o) = p := Option.some.inj e
    subst e'
    exact ⟨hb, q⟩
theorem Inv.pinned {pins : List (Addr × Obj)} {σ : St} {H : Hp} {s : Shared} {fp : List Addr} (I : Inv X pins σ H s) (hf : ∀ b ∈ fp, FpOk X pins H b) (ho : ∀ b ∈ fp, ∃ o, s.heap.get? b = some o ∧ ∀ v, o.data ≠ .cell v) : Inv X (pins ++ pinsAt fp s.heap) σ H s :=
  I.pins_of fun p hp => (List.mem_append.mp hp).elim (fun z => I.pin p (List.mem_append_right _ z)) fun z => by
    obtain ⟨hb, e⟩ := of_pinsAt z
    obtain ⟨f0, f1, f2, _⟩ := hf p.1 hb
    obtain ⟨o, e', d⟩ := ho p.1 hb
    rw [e] at e'; cases e'
    exact ⟨e, f0, f1, f2, d⟩
theorem Inv.unpinned {pins pl : List (Addr × Obj)} {σ : St} {H : Hp} {s : Shared} (I : Inv X (pins ++ pl) σ H s) : Inv X pins σ H s := I.pins_of fun p hp => I.pin p (List.mem_append_right _ (List.mem_append_left _ hp))
theorem ps_for {iter : Expr} {body : List Stmt} {wi : TI} {g : TG} {tb : TS} {pos : Pos} (hp : PassesOwn (model X.prog X.w) X.A X.env X.xe) (hc : X.calm = true) (hi : PI X tg iter wi) (hg : PG X tg g) (hb : PSs X body tb)
    (hs : ∀ x, foldedSetIterable iter X.env x = pure x := by intro _; rfl) : PS X (.For tg iter body [] pos) (tFor wi g tb) := by
  intro pins s σ H D I h
  refine wpAny_For (thn (hi pins s σ H _ I h) fun v s1 h1 => thn h1 fun itv s2 h2 => ?_) hs
  obtain ⟨it, fp, tn, J, H2, e, I2, T, st2, f2, W, ⟨m0, w0⟩, turn⟩ := h2
  subst e
  -- what stays true of the iterator's objects through the loop
  have stat : ∀ {H' : Hp}, (∀ b ∈ fp, H' b = none) → ∀ b ∈ fp, FpOk X pins H' b := fun hn b hb => ⟨hn b hb, (f2 b hb).2⟩
  refine codeAny_forLoop_any (fun n s' => ∃ i σ' H', Inv X pins σ' H' s' ∧ tn i s'.heap ∧ (∀ b ∈ fp, H' b = none) ∧ W i n σ' H') ?_ m0 ⟨0, σ, H2, I2, st2, fun b hb => (f2 b hb).1, w0⟩
  rintro n s3 ⟨i, σ3, H3, I3, st3, fr3, w3⟩
  rcases turn i n σ3 H3 w3 with ⟨stop, qn⟩ | ⟨go, N, hN, step⟩
  · refine wpAny_passesOwn hp (thn (T.done X rfl rfl rfl hc i pins s3 σ3 H3 X.xe I3 (stat fr3) st3 stop) fun r s4 ⟨hr, I4⟩ => ?_)
    subst hr
    exact wpAny_execs_nil ⟨σ3, H3, I4, qn⟩
  · refine wpAny_passesOwn hp (thn (T.item X rfl rfl rfl hc i pins s3 σ3 H3 X.xe I3 (stat fr3) st3 go) fun r s4 ⟨u, hr, h4⟩ => ?_)
    subst hr
    refine wpAny_passesOwn hp (thn h4 fun _ s5 ⟨x, H5, I5, r5, y5, st5, fr5⟩ => ?_)
    have I5' := I5.pinned (stat fr5) (T.obj _ _ st5)
    refine wpAny_passesOwn hp (thn (hg _ s5 σ3 H5 x u _ I5' r5 (step x H5 y5)) fun _ s6 ⟨σ6, H6, I6, q6⟩ => ?_)
    refine wpAny_passesOwn hp (thn (hb _ s6 σ6 H6 _ I6 q6) fun f s7 q7 => ?_)
    have again : ∀ {σ7 : St} {H7 : Hp}, Inv X (pins ++ pinsAt fp s5.heap) σ7 H7 s7 → N σ7 H7 → ∃ m, m < n ∧ ∃ i σ' H', Inv X pins σ' H' s7 ∧ tn i s7.heap ∧ (∀ b ∈ fp, H' b = none) ∧ W i m σ' H' := fun {σ7 H7} I7 n7 => by
      obtain ⟨m', hm, w7⟩ := hN σ7 H7 n7
      refine ⟨m', hm, i + 1, σ7, H7, I7.unpinned, T.keep _ _ _ st5 fun b hb o e => (I7.pin (b, o) (List.mem_append_right _ (List.mem_append_right _ (mem_pinsAt hb e)))).1, fun b hb => ?_, w7⟩
      obtain ⟨o, e, d⟩ := T.obj _ _ st5 b hb
      exact (I7.pin (b, o) (List.mem_append_right _ (List.mem_append_right _ (mem_pinsAt hb e)))).2.1
    cases f with
    | next => obtain ⟨σ7, H7, I7, n7⟩ := q7; exact again I7 n7
    | cont => obtain ⟨σ7, H7, I7, n7⟩ := q7; exact again I7 n7
    | brk => obtain ⟨σ7, H7, I7, q7⟩ := q7; exact ⟨σ7, H7, I7.unpinned, q7⟩
    | ret v => obtain ⟨x7, σ7, H7, I7, r7, q7⟩ := q7; exact ⟨x7, σ7, H7, I7.unpinned, r7, q7⟩
end
end L2
namespace L2
open PySem PySem.Spec PyProof.Rows
noncomputable abbrev R2 := V → V → Hp → VK → Prop
noncomputable def OpR (X : Cx) (f : Value → Value → Sem Value) (r : R2) : Prop :=
  ∀ (pins : List (Addr × Obj)) (s : Shared) (σ : St) (H : Hp) (x y : V) (v u : Value) (Q : VK), Inv X pins σ H s → RelV x v → RelV y u → r x y H Q →
    wpAny (model X.prog X.w) X.A (f v u) (EP X pins σ Q) X.xe s
noncomputable def UnR (X : Cx) (f : Value → Sem Value) (r : V → Hp → VK → Prop) : Prop :=
  ∀ (pins : List (Addr × Obj)) (s : Shared) (σ : St) (H : Hp) (x : V) (v : Value) (Q : VK), Inv X pins σ H s → RelV x v → r x H Q →
    wpAny (model X.prog X.w) X.A (f v) (EP X pins σ Q) X.xe s
noncomputable def CallR (X : Cx) (f : Value) (r : List V → Hp → VK → Prop) : Prop :=
  ∀ (pins : List (Addr × Obj)) (s : Shared) (σ : St) (H : Hp) (xs : List V) (us : List Value) (Q : VK), Inv X pins σ H s → Vals xs us → r xs H Q →
    wpAny (model X.prog X.w) X.A (call f us) (EP X pins σ Q) X.xe s
noncomputable def TruR (X : Cx) (r : V → Hp → (Bool → Hp → Prop) → Prop) : Prop :=
  ∀ (pins : List (Addr × Obj)) (s : Shared) (σ : St) (H : Hp) (x : V) (v : Value) (Q : Bool → Hp → Prop), Inv X pins σ H s → RelV x v → r x H Q →
    wpAny (model X.prog X.w) X.A (truthy v) (TP X pins σ Q) X.xe s
noncomputable def tOp (r : R2) (ta tb : TE) : TE := fun σ H Q => ta σ H fun x H1 => tb σ H1 fun y H2 => r x y H2 Q
noncomputable def tUn (r : V → Hp → VK → Prop) (ta : TE) : TE := fun σ H Q => ta σ H fun x H1 => r x H1 Q
noncomputable def rI (C : Int → Int → Prop) (g : Int → Int → V) : R2 := fun x y H Q => ∃ i j, x = .int i ∧ y = .int j ∧ C i j ∧ Q (g i j) H
noncomputable def rI0 (g : Int → Int → V) : R2 := fun x y H Q => ∃ i j, x = .int i ∧ y = .int j ∧ Q (g i j) H
noncomputable def rU (g : Int → V) : V → Hp → VK → Prop := fun x H Q => ∃ i, x = .int i ∧ Q (g i) H
section
variable {X : Cx} {a b c : Expr} {ta tb tc : TE} {pos : Pos}
theorem binT (ha : PE X a ta) (hb : PE X b tb) {pins : List (Addr × Obj)} {s : Shared} {σ : St} {H : Hp} {R : V → V → Hp → Prop} (I : Inv X pins σ H s)
    (h : ta σ H fun x H1 => tb σ H1 fun y H2 => R x y H2) {Q : Value → Shared → Prop} {f : Value → Value → Sem Value}
    (hf : ∀ v u s2 x y H2, Inv X pins σ H2 s2 → RelV x v → RelV y u → R x y H2 → wpAny (model X.prog X.w) X.A (f v u) Q X.xe s2) :
    wpAny (model X.prog X.w) X.A (eval a X.env) (fun v s₁ => wpAny (model X.prog X.w) X.A (eval b X.env) (fun u s₂ => wpAny (model X.prog X.w) X.A (f v u) Q X.xe s₂) X.xe s₁) X.xe s := by
  refine thn (ha pins s σ H _ I h) fun v s1 ⟨x, H1, I1, r1, q1⟩ => ?_
  refine thn (hb pins s1 σ H1 _ I1 q1) fun u s2 ⟨y, H2, I2, r2, q2⟩ => ?_
  exact hf v u s2 x y H2 I2 r1 r2 q2
theorem pe_op {op : Operator} {r : R2} (ho : OpR X (binaryOp op) r) (ha : PE X a ta) (hb : PE X b tb) : PE X (.BinOp a op b pos) (tOp r ta tb) := by
  intro pins s σ H Q I h
  exact wpAny_BinOp (binT ha hb I h fun v u s2 x y H2 I2 rx ry q => ho pins s2 σ H2 x y v u Q I2 rx ry q)
theorem pe_un {op : UnaryOp} {r : V → Hp → VK → Prop} (ho : UnR X (unaryOp op) r) (ha : PE X a ta) : PE X (.UnaryOp op a pos) (tUn r ta) := by
  intro pins s σ H Q I h
  exact UnaryOp_ (thn (ha pins s σ H _ I h) fun v s1 ⟨x, H1, I1, r1, q1⟩ => ho pins s1 σ H1 x v Q I1 r1 q1)
theorem opI {f : Value → Value → Sem Value} {C : Int → Int → Prop} {g : Int → Int → Int}
    (rule : ∀ (i j : Int) (t u : Tok) (s : Shared) (Q : Value → Shared → Prop) (E : Value → Shared → Prop), C i j → Q (.int (g i j) s.toks) { s with toks := s.toks + 1 } → wpAny (model X.prog X.w) X.A (f (.int i t) (.int j u)) Q E s) :
    OpR X f (rI C fun i j => .int (g i j)) := by
  intro pins s σ H x y v u Q I rx ry h
  obtain ⟨i, j, rfl, rfl, hc, q⟩ := h
  obtain ⟨t, rfl⟩ := rx
  obtain ⟨t', rfl⟩ := ry
  exact rule i j t t' s _ _ hc ⟨.int (g i j), H, I.tok _, ⟨_, rfl⟩, q⟩
theorem opI0 {f : Value → Value → Sem Value} {g : Int → Int → Int}
    (rule : ∀ (i j : Int) (t u : Tok) (s : Shared) (Q : Value → Shared → Prop) (E : Value → Shared → Prop), Q (.int (g i j) s.toks) { s with toks := s.toks + 1 } → wpAny (model X.prog X.w) X.A (f (.int i t) (.int j u)) Q E s) :
    OpR X f (rI0 fun i j => .int (g i j)) := by
  intro pins s σ H x y v u Q I rx ry h
  obtain ⟨i, j, rfl, rfl, q⟩ := h
  obtain ⟨t, rfl⟩ := rx
  obtain ⟨t', rfl⟩ := ry
  exact rule i j t t' s _ _ ⟨.int (g i j), H, I.tok _, ⟨_, rfl⟩, q⟩
theorem opB0 {f : Value → Value → Sem Value} {g : Int → Int → Bool}
    (rule : ∀ (i j : Int) (t u : Tok) (s : Shared) (Q : Value → Shared → Prop) (E : Value → Shared → Prop), Q (.bool (g i j)) s → wpAny (model X.prog X.w) X.A (f (.int i t) (.int j u)) Q E s) :
    OpR X f (rI0 fun i j => .bl (g i j)) := by
  intro pins s σ H x y v u Q I rx ry h
  obtain ⟨i, j, rfl, rfl, q⟩ := h
  obtain ⟨t, rfl⟩ := rx
  obtain ⟨t', rfl⟩ := ry
  exact rule i j t t' s _ _ ⟨.bl (g i j), H, I, rfl, q⟩
noncomputable def CDiv (i j : Int) : Prop := 0 < j ∧ j < 1073741824
noncomputable def CPow (i j : Int) : Prop := 0 ≤ j ∧ j ≤ 1000000 ∧ i.natAbs < 2 ^ 64
noncomputable def CMul (i j : Int) : Prop := (-(2 ^ 64) < i ∧ i < 2 ^ 64) ∨ (-(2 ^ 64) < j ∧ j < 2 ^ 64)
theorem CMul.ok {i j : Int} (h : CMul i j) : IntMulOk i j := by
  rcases h with ⟨h1, h2⟩ | ⟨h1, h2⟩
  · exact .of_left (intBits_le_64 h1 h2)
  · exact .of_right (intBits_le_64 h1 h2)
theorem op_add : OpR X (binaryOp .Add) (rI0 fun i j => .int (i + j)) := opI0 fun _ _ _ _ _ _ _ q => add_int q
theorem op_sub : OpR X (binaryOp .Sub) (rI0 fun i j => .int (i - j)) := opI0 fun _ _ _ _ _ _ _ q => sub_int q
theorem op_mul : OpR X (binaryOp .Mult) (rI CMul fun i j => .int (i * j)) := opI fun _ _ _ _ _ _ _ hc q => mul_int q hc.ok
theorem op_fdiv : OpR X (binaryOp .FloorDiv) (rI CDiv fun i j => .int (i / j)) := opI fun i j _ _ _ _ _ hc q => by
  have h1 : (0 : Int) < j := hc.1
  have h2 : j < 1073741824 := hc.2
  exact floordiv_int (by omega) (by rw [Int.fdiv_eq_ediv_of_nonneg i (by omega)]; exact q) (.inl (PyProof.noPylong_small (by omega)))
theorem op_mod : OpR X (binaryOp .Mod) (rI (fun _ j => 0 < j) fun i j => .int (i % j)) := opI fun i j _ _ _ _ _ hc q => by
  have h1 : (0 : Int) < j := hc
  exact mod_int' (by omega) (by rw [Int.fmod_eq_emod_of_nonneg i (by omega)]; exact q)
theorem op_pow : OpR X (binaryOp .Pow) (rI CPow fun i j => .int (i ^ j.toNat)) := opI fun _ _ _ _ _ _ _ hc q => pow_int_small hc.1 hc.2.1 hc.2.2 q
theorem unI {f : Value → Sem Value} {g : Int → Int}
    (rule : ∀ (i : Int) (t : Tok) (s : Shared) (Q : Value → Shared → Prop) (E : Value → Shared → Prop), Q (.int (g i) s.toks) { s with toks := s.toks + 1 } → wpAny (model X.prog X.w) X.A (f (.int i t)) Q E s) :
    UnR X f (rU fun i => .int (g i)) := by
  intro pins s σ H x v Q I rx h
  obtain ⟨i, rfl, q⟩ := h
  obtain ⟨t, rfl⟩ := rx
  exact rule i t s _ _ ⟨.int (g i), H, I.tok _, ⟨_, rfl⟩, q⟩
theorem un_neg : UnR X (unaryOp .USub) (rU fun i => .int (-i)) := unI fun _ _ _ _ _ q => neg_int q
end
noncomputable def scal : V → V → Bool
  | .non, .non => true | .non, .int _ => true | .int _, .non => true | .non, .bl _ => true | .bl _, .non => true | .non, .str _ => true | .str _, .non => true
  | .int _, .int _ => true | .bl _, .bl _ => true | .str _, .str _ => true | .byt _, .byt _ => true
  | .int _, .str _ => true | .str _, .int _ => true | .bl _, .str _ => true | .str _, .bl _ => true
  | _, _ => false
noncomputable def rEq : R2 := fun x y H Q => scal x y = true ∧ Q (.bl (decide (x = y))) H
noncomputable def rNe : R2 := fun x y H Q => scal x y = true ∧ Q (.bl (!decide (x = y))) H
theorem dec_int {i j : Int} : decide (V.int i = V.int j) = (i == j) := by
  rw [Bool.eq_iff_iff]
  simp
theorem dec_bl {i j : Bool} : decide (V.bl i = V.bl j) = (i == j) := by
  rw [Bool.eq_iff_iff]
  simp
theorem dec_str {i j : Str} : decide (V.str i = V.str j) = (i == j) := by
  rw [Bool.eq_iff_iff]
  simp
theorem dec_byt {i j : Array UInt8} : decide (V.byt i = V.byt j) = (i.toList == j.toList) := by
  rw [Bool.eq_iff_iff]
  cases i
  cases j
  simp
section
variable {X : Cx} {a b c : Expr} {ta tb tc : TE} {pos : Pos}
theorem fin_bl {pins : List (Addr × Obj)} {σ : St} {H : Hp} {s : Shared} {Q : VK} {k k' : Bool} (I : Inv X pins σ H s) (q : Q (.bl k) H) (e : k = k') : EP X pins σ Q (.bool k') s := by
  subst e
  exact ⟨.bl k, H, I, rfl, q⟩
theorem op_eq : OpR X (compareOp .Eq) rEq := by
  intro pins s σ H x y v u Q I rx ry h
  obtain ⟨hs, q⟩ := h
  cases x with
  | non =>
    cases rx
    cases y with
    | non => cases ry; exact PySem.EqNone.eq_none_none (fin_bl I q (by simp))
    | bl j => cases ry; exact PySem.EqNone.eq_none_bool (fin_bl I q (by simp))
    | int j => obtain ⟨t', rfl⟩ := ry; exact PySem.EqNone.eq_none_int (fin_bl I q (by simp))
    | str j => obtain ⟨t', rfl⟩ := ry; exact PySem.EqNone.eq_none_str (fin_bl I q (by simp))
    | _ => exact absurd (show false = true from hs) Bool.false_ne_true
  | bl i =>
    cases rx
    cases y with
    | non => cases ry; exact PySem.EqNone.eq_bool_none (fin_bl I q (by simp))
    | bl j => cases ry; exact eq_bool (fin_bl I q dec_bl)
    | str j => obtain ⟨t', rfl⟩ := ry; exact PySem.EqMixed.eq_bool_str (fin_bl I q (by simp))
    | _ => exact absurd (show false = true from hs) Bool.false_ne_true
  | int i =>
    obtain ⟨t, rfl⟩ := rx
    cases y with
    | non => cases ry; exact PySem.EqNone.eq_int_none (fin_bl I q (by simp))
    | int j => obtain ⟨t', rfl⟩ := ry; exact eq_int (fin_bl I q dec_int)
    | str j => obtain ⟨t', rfl⟩ := ry; exact PySem.EqMixed.eq_int_str (fin_bl I q (by simp))
    | _ => exact absurd (show false = true from hs) Bool.false_ne_true
  | str i =>
    obtain ⟨t, rfl⟩ := rx
    cases y with
    | non => cases ry; exact PySem.EqNone.eq_str_none (fin_bl I q (by simp))
    | bl j => cases ry; exact PySem.EqMixed.eq_str_bool (fin_bl I q (by simp))
    | int j => obtain ⟨t', rfl⟩ := ry; exact PySem.EqMixed.eq_str_int (fin_bl I q (by simp))
    | str j => obtain ⟨t', rfl⟩ := ry; exact eq_str (fin_bl I q dec_str)
    | _ => exact absurd (show false = true from hs) Bool.false_ne_true
  | byt i =>
    obtain ⟨t, rfl⟩ := rx
    cases y with
    | byt j => obtain ⟨t', rfl⟩ := ry; exact PySem.W.eq_bytes (fin_bl I q dec_byt)
    | _ => exact absurd (show false = true from hs) Bool.false_ne_true
  | _ => cases y <;> exact absurd (show false = true from hs) Bool.false_ne_true
theorem op_ne : OpR X (compareOp .NotEq) rNe := by
  intro pins s σ H x y v u Q I rx ry h
  obtain ⟨hs, q⟩ := h
  cases x with
  | non =>
    cases rx
    cases y with
    | non => cases ry; exact PySem.EqNone.ne_none_none (fin_bl I q (by simp))
    | bl j => cases ry; exact PySem.EqNone.ne_none_bool (fin_bl I q (by simp))
    | int j => obtain ⟨t', rfl⟩ := ry; exact PySem.EqNone.ne_none_int (fin_bl I q (by simp))
    | str j => obtain ⟨t', rfl⟩ := ry; exact PySem.EqNone.ne_none_str (fin_bl I q (by simp))
    | _ => exact absurd (show false = true from hs) Bool.false_ne_true
  | bl i =>
    cases rx
    cases y with
    | non => cases ry; exact PySem.EqNone.ne_bool_none (fin_bl I q (by simp))
    | bl j => cases ry; exact ne_bool (fin_bl I q (congrArg not dec_bl))
    | str j => obtain ⟨t', rfl⟩ := ry; exact PySem.EqMixed.ne_bool_str (fin_bl I q (by simp))
    | _ => exact absurd (show false = true from hs) Bool.false_ne_true
  | int i =>
    obtain ⟨t, rfl⟩ := rx
    cases y with
    | non => cases ry; exact PySem.EqNone.ne_int_none (fin_bl I q (by simp))
    | int j => obtain ⟨t', rfl⟩ := ry; exact ne_int (fin_bl I q (congrArg not dec_int))
    | str j => obtain ⟨t', rfl⟩ := ry; exact PySem.EqMixed.ne_int_str (fin_bl I q (by simp))
    | _ => exact absurd (show false = true from hs) Bool.false_ne_true
  | str i =>
    obtain ⟨t, rfl⟩ := rx
    cases y with
    | non => cases ry; exact PySem.EqNone.ne_str_none (fin_bl I q (by simp))
    | bl j => cases ry; exact PySem.EqMixed.ne_str_bool (fin_bl I q (by simp))
    | int j => obtain ⟨t', rfl⟩ := ry; exact PySem.EqMixed.ne_str_int (fin_bl I q (by simp))
    | str j => obtain ⟨t', rfl⟩ := ry; exact ne_str (fin_bl I q (congrArg not dec_str))
    | _ => exact absurd (show false = true from hs) Bool.false_ne_true
  | byt i =>
    obtain ⟨t, rfl⟩ := rx
    cases y with
    | byt j => obtain ⟨t', rfl⟩ := ry; exact PySem.W.ne_bytes (fin_bl I q (congrArg not dec_byt))
    | _ => exact absurd (show false = true from hs) Bool.false_ne_true
  | _ => cases y <;> exact absurd (show false = true from hs) Bool.false_ne_true
theorem op_lt : OpR X (compareOp .Lt) (rI0 fun i j => .bl (decide (i < j))) := opB0 fun _ _ _ _ _ _ _ q => lt_int q
theorem op_le : OpR X (compareOp .LtE) (rI0 fun i j => .bl (decide (i ≤ j))) := opB0 fun _ _ _ _ _ _ _ q => le_int q
theorem op_gt : OpR X (compareOp .Gt) (rI0 fun i j => .bl (decide (j < i))) := opB0 fun _ _ _ _ _ _ _ q => gt_int q
theorem op_ge : OpR X (compareOp .GtE) (rI0 fun i j => .bl (decide (j ≤ i))) := opB0 fun _ _ _ _ _ _ _ q => ge_int q
theorem op_isN : OpR X (compareOp .Is) (fun x y H Q => y = .non ∧ Q (.bl (decide (x = .non))) H) := by
  intro pins s σ H x y v u Q I rx ry h
  obtain ⟨rfl, q⟩ := h
  cases ry
  refine is_none_gen (fin_bl I q ?_)
  cases x <;> first
    | (cases rx; rfl)
    | (obtain ⟨t, rfl⟩ := rx; rfl)
theorem op_notN : OpR X (compareOp .IsNot) (fun x y H Q => y = .non ∧ Q (.bl (!decide (x = .non))) H) := by
  intro pins s σ H x y v u Q I rx ry h
  obtain ⟨rfl, q⟩ := h
  cases ry
  refine isnot_none_gen (fin_bl I q ?_)
  cases x <;> first
    | (cases rx; rfl)
    | (obtain ⟨t, rfl⟩ := rx; rfl)
theorem OpR.or {f : Value → Value → Sem Value} {r r' : R2} (h : OpR X f r) (h' : OpR X f r') : OpR X f (fun x y H Q => r x y H Q ∨ r' x y H Q) := by
  intro pins s σ H x y v u Q I rx ry q
  rcases q with q | q
  · exact h pins s σ H x y v u Q I rx ry q
  · exact h' pins s σ H x y v u Q I rx ry q
theorem pe_cmpR {op : CmpOp} {r : R2} (ho : OpR X (compareOp op) r) (ha : PE X a ta) (hb : PE X b tb) (hm : behindInMarks op b = false) : PE X (.Compare a [op] [b] pos) (tOp r ta tb) := by
  intro pins s σ H Q I h
  exact wpAny_Compare1 (binT ha hb I h fun v u s2 x y H2 I2 rx ry q => ho pins s2 σ H2 x y v u Q I2 rx ry q) hm
noncomputable def tTest (t : TE) : TT := fun σ H Q => t σ H fun x H' => ∃ k, x = .bl k ∧ Q k H'
theorem pt_cmpR {op : CmpOp} {r : R2} (ho : OpR X (compareOp op) r) (ha : PE X a ta) (hb : PE X b tb) (hm : behindInMarks op b = false) : PT X (.Compare a [op] [b] pos) (tTest (tOp r ta tb)) := by
  intro pins s σ H Q I h
  refine wpAny_isTrue_Compare1 (thn (ha pins s σ H _ I h) fun v s1 ⟨x, H1, I1, r1, q1⟩ => thn (hb pins s1 σ H1 _ I1 q1) fun u s2 ⟨y, H2, I2, r2, q2⟩ =>
    thn (ho pins s2 σ H2 x y v u _ I2 r1 r2 q2) fun c s3 ⟨z, H3, I3, r3, k, e, q3⟩ => ?_) hm
  subst e
  cases r3
  exact wpAny_truthy_bool ⟨H3, I3, q3⟩
noncomputable def tChain (r r' : R2) (ta tb tc : TE) : TE := fun σ H Q => ta σ H fun x H1 => tb σ H1 fun y H2 => r x y H2 fun z H3 => ∃ k, z = .bl k ∧
  (if k = true then tc σ H3 fun w' H4 => r' y w' H4 Q else Q (.bl false) H3)
theorem pe_chain {op op' : CmpOp} {r r' : R2} (ho : OpR X (compareOp op) r) (ho' : OpR X (compareOp op') r') (ha : PE X a ta) (hb : PE X b tb) (hc : PE X c tc)
    (hm : lastMarks [op, op'] [b, c] = false := by with_unfolding_all rfl) : PE X (.Compare a [op, op'] [b, c] pos) (tChain r r' ta tb tc) := by
  intro pins s σ H Q I h
  refine Compare_chain (thn (ha pins s σ H _ I h) fun v s1 ⟨x, H1, I1, r1, q1⟩ => chain_link (thn (hb pins s1 σ H1 _ I1 q1) fun u s2 ⟨y, H2, I2, r2, q2⟩ =>
    thn (ho pins s2 σ H2 x y v u _ I2 r1 r2 q2) fun d s3 ⟨z, H3, I3, r3, k, e, q3⟩ => ?_)) hm
  subst e
  cases r3
  refine wpAny_truthy_bool ?_
  cases k with
  | false => exact ite_ff ⟨.bl false, H3, I3, rfl, q3⟩
  | true => exact ite_tt (chain_last (thn (hc pins s3 σ H3 _ I3 q3) fun w' s4 ⟨z', H4, I4, r4, q4⟩ => ho' pins s4 σ H4 y z' u w' Q I4 r2 r4 q4))
theorem pt_chain {op op' : CmpOp} {r r' : R2} (ho : OpR X (compareOp op) r) (ho' : OpR X (compareOp op') r') (ha : PE X a ta) (hb : PE X b tb) (hc : PE X c tc)
    (hm : lastMarks [op, op'] [b, c] = false := by with_unfolding_all rfl) : PT X (.Compare a [op, op'] [b, c] pos) (tTest (tChain r r' ta tb tc)) := by
  intro pins s σ H Q I h
  refine isTrue_chain (thn (ha pins s σ H _ I h) fun v s1 ⟨x, H1, I1, r1, q1⟩ => test_link (thn (hb pins s1 σ H1 _ I1 q1) fun u s2 ⟨y, H2, I2, r2, q2⟩ =>
    thn (ho pins s2 σ H2 x y v u _ I2 r1 r2 q2) fun d s3 ⟨z, H3, I3, r3, k, e, q3⟩ => ?_)) hm
  subst e
  cases r3
  refine wpAny_truthy_bool ?_
  cases k with
  | false =>
    obtain ⟨k', e', q'⟩ := q3
    cases e'
    exact ite_ff ⟨H3, I3, q'⟩
  | true =>
    refine ite_tt (test_last (thn (hc pins s3 σ H3 _ I3 q3) fun w' s4 ⟨z', H4, I4, r4, q4⟩ => thn (ho' pins s4 σ H4 y z' u w' _ I4 r2 r4 q4) fun d' s5 ⟨z2, H5, I5, r5, k2, e2, q5⟩ => ?_))
    subst e2
    cases r5
    exact wpAny_truthy_bool ⟨H5, I5, q5⟩
noncomputable def TruV (K : PySem.W.Frag) (x : V) (H : Hp) (k : Bool) : Prop :=
  match x with
  | .non => k = false
  | .bl b => k = b
  | .int i => k = (i != 0)
  | .str y => y.length ≤ sizeLine ∧ k = ((y.length : Int) != 0)
  | .byt y => y.size ≤ sizeLine ∧ k = ((y.size : Int) != 0)
  | .ref p => (∃ xs, SqL K H p xs ∧ k = !xs.isEmpty) ∨ (∃ xs, SqT K H p xs ∧ k = !xs.isEmpty) ∨ ∃ kvs, H p = some (.dK kvs) ∧ k = !kvs.isEmpty
  | _ => False
theorem isEmpty_kv {κ : Type} {kvs : List (κ × V)} {vs : List (κ × Value)} (r : KV kvs vs) : (!vs.isEmpty) = !kvs.isEmpty := by
  cases r <;> rfl
theorem isEmpty_of {xs : List V} {its : List Value} (r : Vals xs its) : (!its.toArray.isEmpty) = !xs.isEmpty := by
  cases r <;> simp
theorem line63 : (sizeLine : Nat) < 2 ^ 63 := by rw [sizeLine_eq]; decide
theorem tru_ok : TruR X (fun x H Q => ∃ k, TruV X.K x H k ∧ Q k H) := by
  intro pins s σ H x v Q I rx h
  obtain ⟨k, e, q⟩ := h
  have hl := line63
  have hs : sizeLine = 16777216 := sizeLine_eq
  cases x with
  | non =>
    cases rx
    have e' : k = false := e
    subst e'
    exact truthy_none ⟨H, I, q⟩
  | bl b =>
    cases rx
    have e' : k = b := e
    subst e'
    exact wpAny_truthy_bool ⟨H, I, q⟩
  | int i =>
    obtain ⟨t, rfl⟩ := rx
    have e' : k = (i != 0) := e
    subst e'
    exact PySem.P.truthy_int ⟨H, I, q⟩
  | str y =>
    obtain ⟨t, rfl⟩ := rx
    obtain ⟨hy, e'⟩ : y.length ≤ sizeLine ∧ k = ((y.length : Int) != 0) := e
    subst e'
    exact PySem.P.truthy_str (by omega) ⟨H, I.tok _, q⟩
  | byt y =>
    obtain ⟨t, rfl⟩ := rx
    obtain ⟨hy, e'⟩ : y.size ≤ sizeLine ∧ k = ((y.size : Int) != 0) := e
    subst e'
    exact PySem.W.truthy_bytes (by omega) ⟨H, I.tok _, q⟩
  | ref p =>
    cases rx
    have e' : (∃ xs, SqL X.K H p xs ∧ k = !xs.isEmpty) ∨ (∃ xs, SqT X.K H p xs ∧ k = !xs.isEmpty) ∨ ∃ kvs, H p = some (.dK kvs) ∧ k = !kvs.isEmpty := e
    rcases e' with ⟨xs, hx, e'⟩ | ⟨xs, hx, e'⟩ | ⟨kvs, hx, e'⟩
    · subst e'
      obtain ⟨its, r, pl, hz⟩ := I.list hx
      have hlen := r.length
      exact wpAny_truthy_list pl.isList (by simp only [List.size_toArray]; omega) ⟨H, I.tok _, by rw [isEmpty_of r]; exact q⟩
    · subst e'
      obtain ⟨its, r, pl, hz⟩ := I.tuple hx
      have hlen := r.length
      exact truthy_tuple pl (by simp only [List.size_toArray]; omega) ⟨H, I.tok _, by rw [isEmpty_of r]; exact q⟩
    · subst e'
      obtain ⟨hz, hS, vs, r, m⟩ : kvs.length ≤ sizeLine ∧ (p == sysModules) = false ∧ ∃ vs, KV kvs vs ∧ s.heap.DictOf (mixKind X.prog X.w) p vs := I.hok p _ hx
      have hlen : kvs.length = vs.length := Paired.length r
      exact wpAny_truthy_dict hS m (by omega) ⟨H, I.tok _, by rw [isEmpty_kv r]; exact q⟩
  | _ => exact (show False from e).elim
theorem pt_truth (ha : PE X a ta) (he : ∀ whole, isTrue a X.env whole = (do let v ← whole; standAt a.pos; holding [v] (truthy v))) :
    PT X a (fun σ H Q => ta σ H fun x H' => ∃ k, TruV X.K x H' k ∧ Q k H') := by
  intro pins s σ H Q I h
  exact isTrue_plain (thn (ha pins s σ H _ I h) fun v s1 ⟨x, H1, I1, r1, q1⟩ => tru_ok pins s1 σ H1 x v Q I1 r1 q1) (he _)
theorem op_add_str : OpR X (binaryOp .Add) (fun x y H Q => ∃ i j, x = .str i ∧ y = .str j ∧ i.length + j.length ≤ sizeLine ∧ Q (.str (i ++ j)) H) := by
  intro pins s σ H x y v u Q I rx ry h
  obtain ⟨i, j, rfl, rfl, hz, q⟩ := h
  obtain ⟨t, rfl⟩ := rx
  obtain ⟨t', rfl⟩ := ry
  exact add_str (fun t' tk => ⟨.str (i ++ j), H, I.tok _, ⟨_, rfl⟩, q⟩) hz
theorem vals1 {x : V} {us : List Value} (r : Vals [x] us) : ∃ u, us = [u] ∧ RelV x u := by
  cases r with
  | cons r1 r2 => cases r2; exact ⟨_, rfl, r1⟩
theorem vals2 {x y : V} {us : List Value} (r : Vals [x, y] us) : ∃ u w', us = [u, w'] ∧ RelV x u ∧ RelV y w' := by
  cases r with
  | cons r1 r2 =>
    cases r2 with
    | cons r3 r4 => cases r4; exact ⟨_, _, rfl, r1, r3⟩
theorem call_abs : CallR X (.builtin "abs") (fun xs H Q => ∃ i, xs = [.int i] ∧ Q (.int (if i < 0 then -i else i)) H) := by
  intro pins s σ H xs us Q I r h
  obtain ⟨i, rfl, q⟩ := h
  obtain ⟨u, rfl, t, rfl⟩ := vals1 r
  exact call_abs_int fun u tk => ⟨.int (if i < 0 then -i else i), H, I.tok _, ⟨_, rfl⟩, q⟩
theorem call_max2 (hc : X.calm = true) : CallR X (.builtin "max") (fun xs H Q => ∃ i j, xs = [.int i, .int j] ∧ Q (.int (if j > i then j else i)) H) := by
  intro pins s σ H xs us Q I r h
  obtain ⟨i, j, rfl, q⟩ := h
  obtain ⟨u, w', rfl, ⟨t, rfl⟩, ⟨t', rfl⟩⟩ := vals2 r
  refine max_two_ints (I.ok.hd hc) fun h' tk k => ⟨_, H, I.kept k, ?_, q⟩
  by_cases hj : j > i
  · rw [if_pos hj, if_pos hj]; exact ⟨_, rfl⟩
  · rw [if_neg hj, if_neg hj]; exact ⟨_, rfl⟩
theorem call_min2 (hc : X.calm = true) : CallR X (.builtin "min") (fun xs H Q => ∃ i j, xs = [.int i, .int j] ∧ Q (.int (if j < i then j else i)) H) := by
  intro pins s σ H xs us Q I r h
  obtain ⟨i, j, rfl, q⟩ := h
  obtain ⟨u, w', rfl, ⟨t, rfl⟩, ⟨t', rfl⟩⟩ := vals2 r
  refine min_two_ints (I.ok.hd hc) fun h' tk k => ⟨_, H, I.kept k, ?_, q⟩
  by_cases hj : j < i
  · rw [if_pos hj, if_pos hj]; exact ⟨_, rfl⟩
  · rw [if_neg hj, if_neg hj]; exact ⟨_, rfl⟩
theorem call_int1 : CallR X (.type "int") (fun xs H Q => (∃ i, xs = [.int i] ∧ Q (.int i) H) ∨ ∃ k, xs = [.bl k] ∧ Q (.int (if k then 1 else 0)) H) := by
  intro pins s σ H xs us Q I r h
  rcases h with ⟨i, rfl, q⟩ | ⟨k, rfl, q⟩
  · obtain ⟨u, rfl, t, rfl⟩ := vals1 r
    exact call_int_int ⟨.int i, H, I, ⟨_, rfl⟩, q⟩
  · obtain ⟨u, rfl, r1⟩ := vals1 r
    cases r1
    exact call_int_bool ⟨.int (if k then 1 else 0), H, I.tok _, ⟨_, rfl⟩, q⟩
end
end L2
namespace L2
open PySem PySem.Spec PyProof.Rows
structure ObjM (h : Heap) (x dx C : Addr) (mA : Str → Option Value) : Prop where
  obj : h.get? x = some (PySem.W.instObj C dx)
  ns : h.Ns1 dx mA
  ne : dx ≠ x
theorem lookIn_ns {h : Heap} {dx : Addr} {mA : Str → Option Value} (n : h.Ns1 dx mA) : ∃ od, h.get? dx = some od ∧ ∀ name, PySem.W.lookIn name od = some (mA name) := by
  obtain ⟨o, es, ep, ho, hd, hk, _, hm⟩ := n
  refine ⟨o, ho, fun name => ?_⟩
  have e := hm name
  unfold nsFind findBy at e
  rw [← Array.find?_toList] at e
  unfold PySem.W.lookIn
  rw [hd]
  dsimp only
  split
  · rename_i y q
    rw [q] at e
    exact congrArg some e
  · rename_i q
    rw [q] at e
    have a : es.toList.any (·.refKey) = false := by
      rw [List.any_eq_false]
      intro y hy
      obtain ⟨z, t, hkey⟩ := hk y (Array.mem_toList_iff.mp hy)
      simp [DictEntry.refKey, hkey]
    have a' : ¬ es.toList.any (·.refKey) = true := by rw [a]; exact Bool.false_ne_true
    rw [if_neg a']
    exact congrArg some e
theorem ObjM.look {h : Heap} {x dx C : Addr} {mA : Str → Option Value} (I : ObjM h x dx C mA) : ∃ od, PySem.W.InstAt h x (PySem.W.instObj C dx) C (some od) ∧ ∀ name, PySem.W.lookIn name od = some (mA name) :=
  let ⟨od, ho, hl⟩ := lookIn_ns I.ns
  ⟨od, ⟨I.obj, rfl, rfl, ho⟩, hl⟩
section
variable {prog : Program} {w : World} {A : Around} {E : Value → Shared → Prop} {s : Shared} {K : PySem.W.Frag} {x dx C f : Addr} {mA : Str → Option Value} {name : Str} {v : Value}
end
theorem RelO.some_of {v : V} {o : Option Value} (r : RelO (some v) o) : ∃ u, o = some u ∧ RelV v u := by
  cases o with
  | none => exact (show False from r).elim
  | some u => exact ⟨u, rfl, r⟩
section
variable {P : Program} {w : World} {H H' : Hp} {h h' : Heap} {a C dx : Addr} {fs fs' : List (Str × V)}
theorem ins_get (hok : HOk P w H h) (e : H a = some (.ins C dx fs)) : ∃ mA, ObjM h a dx C mA ∧ (∀ f, RelO (fs.lookup f) (mA f)) ∧ PySem.Within mA (fs.map (·.1)) ∧ fs.length ≤ 1000 ∧ H dx = some (.own a) := by
  obtain ⟨d, z, ne, ob, mA, n, r, q⟩ := (show ObjOk P w H h a (.ins C dx fs) from hok a _ e)
  exact ⟨mA, ⟨ob, n, ne⟩, r, q, z, d⟩
end
structure Cls (K : PySem.W.Frag) (C : Addr) : Prop where
  pg : PySem.W.plainGet K C Str.empty = true
  hd : PySem.W.hasDictIn K C = true
  po : PySem.W.plainOver K C = true
  sa : PySem.W.findIn K (.ref C) "__setattr__" = some (some (.builtin "object.__setattr__"))
theorem Cls.get {K : PySem.W.Frag} {C : Addr} (c : Cls K C) (f : Str) : PySem.W.plainGet K C f = true := c.pg
section
variable {X : Cx} {pins : List (Addr × Obj)} {σ : St} {H : Hp} {s : Shared} {a C dx : Addr} {fs : List (Str × V)} {f : Str} {v : V} {A : Around} {E : Value → Shared → Prop}
end
section
variable {X : Cx} {o e value : Expr} {f : Str} {pos pos' tpos : Pos} {ta tv : TE}
end
section
variable {X : Cx} {pins : List (Addr × Obj)} {σ : St} {H : Hp} {s : Shared} {A : Around} {E : Value → Shared → Prop} {Q : Value → Shared → Prop} {c : Value} {b : Bool}
inductive TyOf (K : PySem.W.Frag) (H : Hp) : V → Value → Prop where
  | non : TyOf K H .non (.type "NoneType")
  | bl (x : Bool) : TyOf K H (.bl x) (.type "bool")
  | int (i : Int) : TyOf K H (.int i) (.type "int")
  | str (x : Str) : TyOf K H (.str x) (.type "str")
  | flt (x : UInt64) : TyOf K H (.flt x) (.type "float")
  | lst {a : Addr} {xs : List V} (e : H a = some (.lst xs)) : TyOf K H (.ref a) (.type "list")
  | frz {a : Addr} {o : Obj} {xs : List V} (e : H a = some (.frz o (.lst xs))) : TyOf K H (.ref a) (.type "list")
  | tup {a : Addr} {xs : List V} (e : H a = some (.tup xs)) : TyOf K H (.ref a) (.type "tuple")
  | dK {a : Addr} {kvs : List (Key × V)} (e : H a = some (.dK kvs)) : TyOf K H (.ref a) (.type "dict")
  | dT {a : Addr} {kvs : List (List Key × V)} (e : H a = some (.dT kvs)) : TyOf K H (.ref a) (.type "dict")
  | ins {a C dx : Addr} {fs : List (Str × V)} (e : H a = some (.ins C dx fs)) (cl : Cls K C) (ha : PySem.W.findIn K (.ref C) "__class__" = some (some (.builtin "object.__class__")))
      (hn : PySem.W.specialIn K (.builtin "object.__class__") "__get__" = some (some (.builtin "getset_descriptor.__get__"))) (htk : PySem.W.takesIn K (.builtin "object.__class__") = some true)
      (hm : PySem.W.mroIn K C (.type "object") = some true) : TyOf K H (.ref a) (.ref C)
theorem isinst_ok {x : V} {u t : Value} (I : Inv X pins σ H s) (rx : RelV x u) (ty : TyOf X.K H x t) (e : PySem.W.kitOne X.K t c = some b) (h : ∀ tk, Q (.bool b) { s with toks := tk }) :
    wpAny (model X.prog X.w) A (call (.builtin "isinstance") [u, c]) Q E s := by
  cases ty with
  | non => cases (show u = Value.none from rx); exact PySem.W.kia_one PySem.W.kitx_none I.kIn True.intro e (fun z => nomatch z) h
  | bl y => cases (show u = Value.bool y from rx); exact PySem.W.kia_one PySem.W.kitx_bool I.kIn True.intro e (fun z => nomatch z) h
  | int i => obtain ⟨t, q⟩ := (show ∃ t, u = Value.int i t from rx); cases q; exact PySem.W.kia_one PySem.W.kitx_int I.kIn True.intro e (fun z => nomatch z) h
  | str y => obtain ⟨t, q⟩ := (show ∃ t, u = Value.str y t from rx); cases q; exact PySem.W.kia_one PySem.W.kitx_str I.kIn True.intro e (fun z => nomatch z) h
  | flt y => obtain ⟨t, q⟩ := (show ∃ t, u = Value.float y t from rx); cases q; exact PySem.W.kia_one PySem.W.kitx_float I.kIn True.intro e (fun z => nomatch z) h
  | @lst a xs ea =>
    cases (show u = Value.ref a from rx)
    obtain ⟨_, _, n, _, h1⟩ := (show ObjOk X.prog X.w H s.heap a (.lst xs) from I.hok a _ ea)
    exact PySem.W.kia_one PySem.W.kitx_list I.kIn ⟨_, h1, rfl⟩ e (fun z => nomatch z) h
  | @frz a ob xs ea =>
    cases (show u = Value.ref a from rx)
    obtain ⟨_, _, _, n, _, h1⟩ := (show ObjOk X.prog X.w H s.heap a (.frz ob (.lst xs)) from I.hok a _ ea)
    exact PySem.W.kia_one PySem.W.kitx_list I.kIn ⟨_, h1, rfl⟩ e (fun z => nomatch z) h
  | @tup a xs ea =>
    cases (show u = Value.ref a from rx)
    obtain ⟨_, _, _, p⟩ := (show ObjOk X.prog X.w H s.heap a (.tup xs) from I.hok a _ ea)
    obtain ⟨o, h1, h2, _⟩ := p
    exact PySem.W.kia_one PySem.W.kitx_tuple I.kIn ⟨o, h1, h2⟩ e (fun z => nomatch z) h
  | @dK a kvs ea =>
    cases (show u = Value.ref a from rx)
    obtain ⟨_, _, vs, _, p⟩ := (show ObjOk X.prog X.w H s.heap a (.dK kvs) from I.hok a _ ea)
    obtain ⟨o, es, ep, h1, h2, _⟩ := p
    exact PySem.W.kia_one PySem.W.kitx_dict I.kIn ⟨o, h1, h2.1⟩ e (fun z => nomatch z) h
  | @dT a kvs ea =>
    cases (show u = Value.ref a from rx)
    obtain ⟨_, _, xs, _, o, es, ep, h1, h2, _⟩ := (show ObjOk X.prog X.w H s.heap a (.dT kvs) from I.hok a _ ea)
    exact PySem.W.kia_one PySem.W.kitx_dict I.kIn ⟨o, h1, h2.1⟩ e (fun z => nomatch z) h
  | @ins a C dx fs ea cl ha hn htk hm =>
    cases (show u = Value.ref a from rx)
    obtain ⟨mA, O, _⟩ := ins_get I.hok ea
    obtain ⟨od, J, _⟩ := O.look
    exact PySem.W.kia_one (PySem.W.kitx_own (cl.get _) cl.hd ha hn htk hm) I.kIn J e (fun z => nomatch z) h
end
end L2
namespace L2
open PySem PySem.Spec PyProof.Rows
structure Room (k : Nat) (A : Around) : Prop where
  hd : A.handled = none
  dp : A.depth + 3 * k + 5 < recursionLimit
  un : A.units + 16 * k + 200 < cLine
  gd : A.guards = some []
theorem Room.deeper {k : Nat} {A : Around} (r : Room (k + 1) A) (env : Env) : Room k (A.deeper env) :=
  ⟨r.hd, by have := r.dp; show A.depth + 1 + 3 * k + 5 < _; omega, by have := r.un; show A.units + 3 + 16 * k + 200 < _; omega, r.gd⟩
theorem Room.depth {k : Nat} {A : Around} (r : Room k A) : A.depth < recursionLimit := by have := r.dp; omega
noncomputable def tNil : TA := fun _ H Q => Q [] H
noncomputable def tCons (ta : TE) (tr : TA) : TA := fun σ H Q => ta σ H fun x H1 => tr σ H1 fun xs H2 => Q (x :: xs) H2
section
variable {X : Cx} {e : Expr} {es : List Expr} {te : TE} {t : TA} {pos : Pos}
theorem pa_nil : PA X [] tNil := fun _ _ _ _ H Q I h => Calls.spliced_nil ⟨[], H, I, .nil, h⟩
theorem pa_cons (ha : PE X e te) (hr : PA X es t) (hs : starEach (e :: es) X.env = (false, eval e X.env) :: starEach es X.env := by rfl) : PA X (e :: es) (tCons te t) := by
  intro pos pins s σ H Q I h
  rw [hs]
  show wpAny _ _ (spliced ((false, eval e X.env) :: backTo pos (starEach es X.env))) _ _ s
  refine Calls.spliced_cons (thn (ha pins s σ H _ I h) fun u s1 ⟨x, H1, I1, r1, q1⟩ => ?_)
  exact thn (hr pos pins s1 σ H1 _ I1 q1) fun us s2 ⟨xs, H2, I2, r2, q2⟩ => ⟨x :: xs, H2, I2, .cons r1 r2, q2⟩
noncomputable def tTup (t : TA) : TE := fun σ H Q => t σ H fun xs H1 => xs.length ≤ sizeLine ∧ ∀ p, H1 p = none → Q (.ref p) (upd H1 p (.tup xs))
noncomputable def tLst (t : TA) : TE := fun σ H Q => t σ H fun xs H1 => xs.length ≤ sizeLine ∧ ∀ p, H1 p = none → Q (.ref p) (upd H1 p (.lst xs))
theorem pe_tup {x1} (h : PA X es t) : PE X (.Tuple es x1 pos) (tTup t) := by
  intro pins s σ H Q I hq
  refine wpAny_Tuple_spliced (thn (h pos pins s σ H _ I hq) fun us s1 ⟨xs, H1, I1, r, z, q⟩ => ⟨by rw [← r.length]; exact z, ?_⟩)
  have hf : H1 s1.heap.objs.size = none := I1.hok.fresh (Nat.le_refl _)
  refine ⟨.ref s1.heap.objs.size, upd H1 s1.heap.objs.size (.tup xs), I1.laid (t' := s1.toks) (fun b u e => Heap.get?_push_of_some _ e) (Nat.le_refl _) ?_, rfl, q _ hf⟩
  exact ⟨z, us, r, ⟨_, Heap.get?_push_size _ rfl, rfl, _, rfl⟩⟩
theorem pe_lst (h : PA X es t) : PE X (.List es pos) (tLst t) := by
  intro pins s σ H Q I hq
  refine wpAny_List_spliced (thn (h pos pins s σ H _ I hq) fun us s1 ⟨xs, H1, I1, r, z, q⟩ => ⟨by rw [← r.length]; exact z, ?_⟩)
  have hf : H1 s1.heap.objs.size = none := I1.hok.fresh (Nat.le_refl _)
  refine ⟨.ref s1.heap.objs.size, upd H1 s1.heap.objs.size (.lst xs), I1.laid (t' := s1.toks) (fun b u e => Heap.get?_push_of_some _ e) (Nat.le_refl _) ?_, rfl, q _ hf⟩
  exact ⟨z, us, 0, r, Heap.get?_push_size _ rfl⟩
end
noncomputable abbrev Sp := List V → Hp → VK → XK → Prop
noncomputable abbrev CXT := List Env → Hp → Shared → XK → Value → Shared → Prop
structure Env0 (P : Program) (w : World) (K : PySem.W.Frag) (mg : Str → Option Value) (base : Heap) (A : Around) (outer : List Env) (s : Shared) (H : Hp) : Prop where
  frames : A.frames = some outer
  mod : Mod K mg base
  bs : ∀ b o, base.get? b = some o → s.heap.get? b = some o ∧ H b = none
  bsz : base.objs.size ≤ s.heap.objs.size
  funs : s.heap.FunFrames base outer
  frf : ∀ b ∈ frs outer, H b = none
  hok : HOk P w H s.heap
  bare : AllBare s.gens
noncomputable def CE (outer : List Env) (P : Program) (w : World) (H : Hp) (s : Shared) (Q : VK) (u : Value) (s' : Shared) : Prop :=
  ∃ v H', s'.os = s.os ∧ AllBare s'.gens ∧ Un (frs outer) [] H H' s.heap s'.heap ∧ HOk P w H' s'.heap ∧ RelV v u ∧ Q v H'
noncomputable def CR (CX : CXT) (outer : List Env) (P : Program) (w : World) (H : Hp) (s : Shared) (Q : VK) (E : XK) (r : Result) (s' : Shared) : Prop :=
  match r with
  | .ok (.ret u) => CE outer P w H s Q u s'
  | .ok _ => False
  | .error e => CX outer H s E e s'
structure FnOk (P : Program) (w : World) (K : PySem.W.Frag) (mg : Str → Option Value) (base : Heap) (CX : CXT) (k : Nat) (f : Addr) (fd : FuncData) (ps : List Str) (sp : Sp) : Prop where
  len : ∀ vs H Q E, sp vs H Q E → vs.length = ps.length
  run : ∀ (A : Around) (outer : List Env) (s : Shared) (H : Hp) (args : Args) (us : List Value) (vs : List V) (Q : VK) (E : XK), Room k A → Env0 P w K mg base A outer s H → BindsTo s fd args (ps.zip us) → Vals vs us → sp vs H Q E →
    codeAny (model P w) A (.call (.ref f) args) (CR CX outer P w H s Q E) s
section
variable {X : Cx} {pins : List (Addr × Obj)} {σ : St} {H : Hp} {s s' : Shared}
theorem Inv.env0 (I : Inv X pins σ H s) : Env0 X.prog X.w X.K X.mg X.base X.A X.stack s H :=
  ⟨I.ok.frames, I.ok.mod, I.bs, Nat.le_trans I.ok.bsz I.sz, I.stack, I.stkFree, I.hok, I.bare⟩
theorem Inv.after {Q : VK} {u : Value} (I : Inv X pins σ H s) (h : CE X.stack X.prog X.w H s Q u s') : EP X pins σ Q u s' := by
  obtain ⟨v, H', os, bare, un, hok, r, q⟩ := h
  obtain ⟨hh, g, d, t, os'⟩ := s'
  obtain rfl : os' = s.os := os
  exact ⟨v, H', I.call (h' := hh) (g' := g) (d' := d) (t' := t) (ch := []) un hok bare (fun b z => absurd z (by simp)), r, q⟩
end
noncomputable def tCall (sp : Sp) (dvs : List V) (E : XK) (t : TA) : TE := fun σ H Q => t σ H fun vs H1 => sp (vs ++ dvs) H1 Q E
noncomputable def Binds (K : PySem.W.Frag) (fd : FuncData) (ps : List Str) (ds : List Value) : Prop :=
  ∀ (s : Shared) (us : List Value), K.In s.heap → (us ++ ds).length = ps.length → BindsTo s fd ⟨us, []⟩ (ps.zip (us ++ ds))
theorem Binds.all {K : PySem.W.Frag} {fd : FuncData} {ps : List Str} (h : ∀ us : List Value, us.length = ps.length → bindArgs fd ⟨us, []⟩ = pure (ps.zip us)) : Binds K fd ps [] := fun s us _ hl => by
  rw [List.append_nil] at hl ⊢
  exact .of_eq (h us hl)
noncomputable def Passes (CX : CXT) (X : Cx) (E : XK) : Prop := ∀ (pins : List (Addr × Obj)) (σ : St) (H : Hp) (s : Shared) (e : Value) (s' : Shared), Inv X pins σ H s → CX X.stack H s E e s' → X.xe e s'
section
variable {X : Cx} {CX : CXT} {k : Nat} {f C : Addr} {fd : FuncData} {ps : List Str} {sp : Sp} {dvs : List V} {ds : List Value} {E : XK} {x m : Str} {p pos apos : Pos} {e o : Expr} {es : List Expr} {ta : TE} {t : TA}
theorem run_fn {pins : List (Addr × Obj)} {σ : St} {H : Hp} {s : Shared} {Q : VK} {us : List Value} {vs : List V} (F : FnOk X.prog X.w X.K X.mg X.base CX k f fd ps sp) (hr : Room k X.A) (hb : Binds X.K fd ps ds) (hd : Vals dvs ds) (hx : Passes CX X E)
    (I : Inv X pins σ H s) (r : Vals vs us) (h : sp (vs ++ dvs) H Q E) : wpAny (model X.prog X.w) X.A (call (.ref f) us) (EP X pins σ Q) X.xe s := by
  have r2 : Vals (vs ++ dvs) (us ++ ds) := r.append hd
  have hl : (us ++ ds).length = ps.length := by rw [← r2.length]; exact F.len _ _ _ _ h
  refine wpAny_call (codeAny_mono (F.run X.A X.stack s H ⟨us, []⟩ (us ++ ds) (vs ++ dvs) Q E hr I.env0 (hb s us I.kIn hl) r2 h) fun r s' hq => ?_)
  cases r with
  | error e => exact hx pins σ H s e s' I hq
  | ok fl =>
    cases fl with
    | ret u => exact I.after hq
    | next => exact False.elim hq
    | brk => exact False.elim hq
    | cont => exact False.elim hq
theorem pe_call (F : FnOk X.prog X.w X.K X.mg X.base CX k f fd ps sp) (hr : Room k X.A) (hg : Gl X x) (hm : X.mg x = some (.ref f)) (hk : PySem.W.keepIn X.K (.ref f) = true) (hb : Binds X.K fd ps ds) (hd : Vals dvs ds) (hx : Passes CX X E)
    (ha : PA X (e :: es) t) (hdb : (x == ("__debug__" : Str)) = false := by decide) (he : starEach (e :: es) X.env = (false, eval e X.env) :: starEach es X.env := by rfl) (hpl : (backTo pos (starEach es X.env)).any (·.1) = false := by rfl) :
    PE X (.Call (.Name x p) (e :: es) [] pos) (tCall sp dvs E t) := by
  intro pins s σ H Q I h
  refine wpAny_Call_Name_kw (ld_glob I hg hm ?_ hdb)
  refine PySem.W.callWith_K (h₀ := X.base) I.ok.mod.kin hk (thn (ha pos pins s σ H _ I h) fun us s1 ⟨vs, H1, I1, r, q⟩ => ⟨I1.kIn, ?_⟩) he hpl
  exact run_fn F hr hb hd hx I1 r q
end
section
variable {X : Cx} {CX : CXT} {k : Nat} {f C : Addr} {fd : FuncData} {ps ks : List Str} {sp : Sp} {E : XK} {x m : Str} {p pos apos kpos : Pos} {e o : Expr} {es : List Expr} {kws : List Keyword} {te ta : TE} {t tk : TA} {nm : Option Str}
variable {g : List Value → List Value → List Value} {gV : List V → List V → List V}
end
structure FnScope (N P : List Str) (sc : Scope) : Prop where
  kind : sc.kind = .function
  co : sc.isCoroutine = false
  gen : sc.isGenerator = false
  nd : N.Nodup
  pre : N.take P.length = P
  par : ∀ x ∈ P, sc.names.lookup x = some .local ∨ sc.names.lookup x = some .cell
  nofree : ∀ y ∈ sc.names, y.2 ≠ .free
theorem bindL_out {kindOf : Str → Option NameKind} {x : Str} : ∀ {binds : List (Str × Value)} {m : Str → Option Value}, (∀ v, (x, v) ∉ binds) → bindL kindOf binds m x = m x
  | [], _, _ => rfl
  | (n, v) :: r, m, h => by
    unfold bindL
    rw [bindL_out fun w hw => h w (List.mem_cons_of_mem _ hw)]
    split
    · have : x ≠ n := by rintro rfl; exact h v List.mem_cons_self
      simp [this]
    · rfl
theorem bindC_out {kindOf : Str → Option NameKind} {x : Str} : ∀ {binds : List (Str × Value)} {m : Str → Option Value}, (∀ v, (x, v) ∉ binds) → bindC kindOf binds m x = m x
  | [], _, _ => rfl
  | (n, v) :: r, m, h => by
    unfold bindC
    rw [bindC_out fun w hw => h w (List.mem_cons_of_mem _ hw)]
    split
    · rfl
    · have : x ≠ n := by rintro rfl; exact h v List.mem_cons_self
      simp [this]
theorem bindL_get {kindOf : Str → Option NameKind} {x : Str} {v : Value} : ∀ {P : List Str} {vs : List Value} {i : Nat} {m : Str → Option Value}, P.Nodup → P[i]? = some x → vs[i]? = some v → kindOf x = some .local →
    bindL kindOf (P.zip vs) m x = some v
  | [], _, _, _, _, h, _, _ => by simp at h
  | _ :: _, [], _, _, _, _, h, _ => by simp at h
  | p :: P, w :: vs, 0, m, nd, h1, h2, hk => by
    simp at h1 h2; subst h1; subst h2
    show bindL kindOf ((p, w) :: P.zip vs) m p = _
    unfold bindL
    rw [bindL_out fun v hv => (List.nodup_cons.mp nd).1 (List.of_mem_zip hv).1, if_pos hk]
    simp
  | p :: P, w :: vs, i + 1, m, nd, h1, h2, hk => by
    show bindL kindOf ((p, w) :: P.zip vs) m x = _
    unfold bindL
    exact bindL_get (i := i) (List.nodup_cons.mp nd).2 (by simpa using h1) (by simpa using h2) hk
theorem bindC_get {kindOf : Str → Option NameKind} {x : Str} {v : Value} : ∀ {P : List Str} {vs : List Value} {i : Nat} {m : Str → Option Value}, P.Nodup → P[i]? = some x → vs[i]? = some v → kindOf x ≠ some .local →
    bindC kindOf (P.zip vs) m x = some v
  | [], _, _, _, _, h, _, _ => by simp at h
  | _ :: _, [], _, _, _, _, h, _ => by simp at h
  | p :: P, w :: vs, 0, m, nd, h1, h2, hk => by
    simp at h1 h2; subst h1; subst h2
    show bindC kindOf ((p, w) :: P.zip vs) m p = _
    unfold bindC
    rw [bindC_out fun v hv => (List.nodup_cons.mp nd).1 (List.of_mem_zip hv).1, if_neg hk]
    simp
  | p :: P, w :: vs, i + 1, m, nd, h1, h2, hk => by
    show bindC kindOf ((p, w) :: P.zip vs) m x = _
    unfold bindC
    exact bindC_get (i := i) (List.nodup_cons.mp nd).2 (by simpa using h1) (by simpa using h2) hk
noncomputable def start (N : List Str) (vs : List V) : St := vs.map some ++ List.replicate (N.length - vs.length) none
noncomputable def cxOf (CX : CXT) (P : Program) (w : World) (K : PySem.W.Frag) (mg : Str → Option Value) (base : Heap) (N : List Str) (qual : Str) (scope : Scope) (f : Addr) (cd : Value) (A : Around) (outer : List Env) (s : Shared) (H : Hp) (E : XK) : Cx where
  prog := P
  w := w
  K := K
  mg := mg
  base := base
  A := A.deeper (envOfC qual scope s.heap.objs.size f cd)
  N := N
  s₀ := s
  H₀ := H
  env := envOfC qual scope s.heap.objs.size f cd
  outer := outer
  stack := envOfC qual scope s.heap.objs.size f cd :: outer
  ex := []
  calm := true
  fn := fun _ => true
  pn := []
  xe := fun e s' => wpAny (model P w) (A.deeper (envOfC qual scope s.heap.objs.size f cd)) (leaving (envOfC qual scope s.heap.objs.size f cd) e) (fun _ s'' => CX outer H s E e s'') (fun e' s'' => CX outer H s E e' s'') s'
theorem cell_has {sc : Scope} {n : Nat} {x : Str} (h : sc.names.lookup x = some .cell) : ∃ c, (cellsFrom n sc.names []).lookup x = some c := by
  have q := PySem.W.cellsFrom_some sc.names n [] (.inl h)
  exact Option.isSome_iff_exists.mp q
theorem inv_start {CX : CXT} {P : Program} {w : World} {K : PySem.W.Frag} {mg : Str → Option Value} {base : Heap} {N ps : List Str} {qual : Str} {scope : Scope} {f : Addr} {cd : Value} {A : Around} {outer : List Env} {s s1 : Shared} {H : Hp} {E : XK} {us : List Value} {vs : List V}
    (S : FnScope N ps scope) (hd : A.handled = none) (e0 : Env0 P w K mg base A outer s H) (hl : vs.length = ps.length) (r : Vals vs us)
    (x : InCallC s s.heap.objs.size (bindL (envOfC qual scope s.heap.objs.size f cd).kindOf (ps.zip us) fun _ => none) (cellsFrom (s.heap.objs.size + 1) scope.names []) (bindC (envOfC qual scope s.heap.objs.size f cd).kindOf (ps.zip us) fun _ => none) s1) :
    Inv (cxOf CX P w K mg base N qual scope f cd A outer s H E) [] (start N vs) H s1 := by
  have hpl : ps.length ≤ N.length := by have := congrArg List.length S.pre; rw [List.length_take] at this; omega
  obtain ⟨h1, tk, rfl, hk⟩ := x.done
  have noA : ∀ b : Addr, b ∉ (cxOf CX P w K mg base N qual scope f cd A outer s H E).ex := fun b z => absurd (show b ∈ ([] : List Addr) from z) (by simp)
  refine ⟨⟨e0.mod, S.kind, rfl, rfl, Nat.le_refl _, fun y z c h1 h2 => ?_, fun y hy => ?_, fun y c _ h => ?_, fun _ => hd, Around.frames_deeper e0.frames, .inr ⟨rfl, rfl⟩, fun b z => absurd z (noA b), e0.bs, e0.bsz, fun b _ _ => noA b, fun b z => absurd z (noA b), e0.funs, e0.frf⟩,
    rfl, e0.bare, Un.kept hk, ⟨_, x.toInCall.ns, fun i y v h1 h2 h3 => ?_⟩, fun y c h => ⟨_, x.cell y c h⟩, e0.hok.fresh (Nat.le_refl _), fun y c h => ?_, fun p hp => absurd (show p ∈ ([] : List (Addr × Obj)) from hp) (by simp), e0.hok.kept hk, ?_⟩
  · exact name_of_addr x.apart (PySem.mem_of_lookup h1) (PySem.mem_of_lookup h2)
  · have hy : scope.names.lookup y = some .cell ∨ scope.names.lookup y = some .free := hy
    rcases hy with hy | hy
    · exact cell_has hy
    · exact absurd rfl (S.nofree _ (PySem.mem_of_lookup hy))
  · exact Nat.le_of_lt (x.above y c (PySem.mem_of_lookup h))
  · have hi : i < vs.length := by
      unfold start at h2
      by_cases hi : i < vs.length
      · exact hi
      · rw [List.getElem?_append_right (by simpa using hi)] at h2
        rw [List.getElem?_replicate] at h2
        split at h2 <;> cases h2
    have ha : vs[i]? = some v := by
      unfold start at h2
      rw [List.getElem?_append_left (by simpa using hi), List.getElem?_map] at h2
      cases e : vs[i]? with
      | none => rw [e] at h2; cases h2
      | some a => rw [e] at h2; cases h2; rfl
    obtain ⟨u, hu, rv⟩ := r.get ha
    have hp : ps[i]? = some y := by
      rw [← S.pre, List.getElem?_take_of_lt (by omega)]; exact h1
    have ndP : ps.Nodup := by rw [← S.pre]; exact S.nd.sublist (List.take_sublist _ _)
    refine ⟨u, rv, ?_⟩
    rcases S.par y (List.mem_of_getElem? hp) with k | k
    · exact .inl ⟨k, bindL_get ndP hp hu k⟩
    · obtain ⟨c, e⟩ := cell_has (n := s.heap.objs.size + 1) k
      refine .inr ⟨.inl k, c, e, ?_⟩
      have q := x.cell y c e
      rw [bindC_get ndP hp hu (by show scope.names.lookup y ≠ _; rw [k]; decide)] at q
      exact q
  · exact e0.hok.fresh (Nat.le_of_lt (x.above y c (PySem.mem_of_lookup h)))
  · unfold start
    show _ = N.length
    rw [List.length_append, List.length_map, List.length_replicate]
    omega
theorem fn_of {CX : CXT} {P : Program} {w : World} {K : PySem.W.Frag} {mg : Str → Option Value} {base : Heap} {k : Nat} {f : Addr} {name qual : Str} {params : Arguments} {body : List Stmt} {scope : Scope} {dV kV doc pm cdv ct oc : Value} {an od : Option Addr}
    {osl : Array (Option Value)} {N ps : List Str} {sp : Sp} (lk : K.lookup f = some ⟨oc, od, .func (PySem.W.fnOf name qual params body scope dV kV doc pm an cdv ct), osl⟩) (hcd : PySem.W.codeIn K cdv qual = true) (S : FnScope N ps scope)
    (len : ∀ vs H Q E, sp vs H Q E → vs.length = ps.length)
    (hbody : ∀ (A : Around) (outer : List Env) (s : Shared) (H : Hp) (vs : List V) (Q : VK) (E : XK), Room k (A.deeper (envOfC qual scope s.heap.objs.size f cdv)) → sp vs H Q E →
      ∃ t, PSs (cxOf CX P w K mg base N qual scope f cdv A outer s H E) body t ∧ t { nx := fun _ H' => Q .non H', rt := Q } (start N vs) H) :
    FnOk P w K mg base CX (k + 1) f (PySem.W.fnOf name qual params body scope dV kV doc pm an cdv ct) ps sp := by
  refine ⟨len, fun A outer s H args us vs Q E hr e0 hb r hsp => ?_⟩
  have hl := len _ _ _ _ hsp
  have KX : K.In s.heap := e0.mod.kin.keeps fun b o e => (e0.bs b o e).1
  have lim : s.heap.NoLimit := e0.mod.nolimit.keeps fun b o e => (e0.bs b o e).1
  have hkind : ∀ y ∈ ps.zip us, scope.names.lookup y.1 = some .local ∨ (scope.names.lookup y.1 = some .cell ∧ ((cellsFrom (s.heap.objs.size + 1) scope.names []).lookup y.1).isSome = true) := fun ⟨n, v⟩ hy => by
    rcases S.par n (List.of_mem_zip hy).1 with q | q
    · exact .inl q
    · exact .inr ⟨q, PySem.W.cellsFrom_some _ _ _ (.inl q)⟩
  refine codeAny_call_function hr.depth (KX _ _ lk) rfl S.co S.gen rfl (PySem.W.codeRec_of KX hcd) (hb _ _ _ _ ?_)
  refine wpAny_newFunctionEnv_cells S.kind hkind fun env he s1 x => ?_
  subst he
  refine ⟨lim.keeps x.toInCall.keep, codeAny_func ?_⟩
  obtain ⟨t, ht, hq⟩ := hbody A outer s H vs Q E (hr.deeper _) hsp
  have I : Inv (cxOf CX P w K mg base N qual scope f cdv A outer s H E) [] (start N vs) H s1 := inv_start S hr.hd e0 hl r x
  refine wpAny_mono (ht [] s1 (start N vs) H _ I hq) (fun fl s' hs => ?_) fun e s' hs => hs
  have fin : ∀ {σ' : St} {H' : Hp} {v : V} {u : Value}, Inv (cxOf CX P w K mg base N qual scope f cdv A outer s H E) [] σ' H' s' → RelV v u → Q v H' → CE outer P w H s Q u s' :=
    fun {σ' H' v u} J rv q => ⟨v, H', J.os, J.bare, J.base, J.hok, rv, q⟩
  cases fl with
  | ret u =>
    obtain ⟨v, σ', H', J, rv, q⟩ := hs
    exact fin J rv q
  | next =>
    obtain ⟨σ', H', J, q⟩ := hs
    exact fin (v := V.non) (u := Value.none) J rfl q
  | brk =>
    obtain ⟨_, _, _, q⟩ := hs
    exact False.elim q
  | cont =>
    obtain ⟨_, _, _, q⟩ := hs
    exact False.elim q
end L2
namespace L2
open PySem PySem.Spec PyProof.Rows
section
variable {X : Cx} {x : Str} {p pos : Pos} {e : Expr} {es : List Expr} {t : TA} {id T : String} {r : List V → Hp → VK → Prop}
noncomputable def tCB (r : List V → Hp → VK → Prop) (t : TA) : TE := fun σ H Q => t σ H fun vs H1 => r vs H1 Q
theorem pe_callB (hc : CallR X (.builtin id) r) (hg : Gl X x) (hm : X.mg x = none) (hv : bootBuiltins x = some (.builtin id)) (ha : PA X (e :: es) t) (hn : x ≠ "__name__" := by decide) (hdb : (x == ("__debug__" : Str)) = false := by decide)
    (he : starEach (e :: es) X.env = (false, eval e X.env) :: starEach es X.env := by rfl) (hpl : (backTo pos (starEach es X.env)).any (·.1) = false := by rfl) : PE X (.Call (.Name x p) (e :: es) [] pos) (tCB r t) := by
  intro pins s σ H Q I h
  refine wpAny_Call_Name_kw (ld_blt I hg hm hv ?_ hn hdb)
  exact PyProof.Rows.callWith_builtin1 (thn (ha pos pins s σ H _ I h) fun us s1 ⟨vs, H1, I1, r1, q1⟩ => hc pins s1 σ H1 vs us Q I1 r1 q1) he hpl
theorem pe_callTy (hc : CallR X (.type T) r) (hg : Gl X x) (hm : X.mg x = none) (hv : bootBuiltins x = some (.type T)) (ha : PA X (e :: es) t) (hn : x ≠ "__name__" := by decide) (hdb : (x == ("__debug__" : Str)) = false := by decide)
    (he : starEach (e :: es) X.env = (false, eval e X.env) :: starEach es X.env := by rfl) (hpl : (backTo pos (starEach es X.env)).any (·.1) = false := by rfl) : PE X (.Call (.Name x p) (e :: es) [] pos) (tCB r t) := by
  intro pins s σ H Q I h
  refine wpAny_Call_Name_kw (ld_blt I hg hm hv ?_ hn hdb)
  exact PyProof.Rows.callWith_type1 (thn (ha pos pins s σ H _ I h) fun us s1 ⟨vs, H1, I1, r1, q1⟩ => hc pins s1 σ H1 vs us Q I1 r1 q1) he hpl
theorem pe_callTy0 (hc : CallR X (.type T) r) (hg : Gl X x) (hm : X.mg x = none) (hv : bootBuiltins x = some (.type T)) (hn : x ≠ "__name__" := by decide) (hdb : (x == ("__debug__" : Str)) = false := by decide) :
    PE X (.Call (.Name x p) [] [] pos) (tCB r tNil) := by
  intro pins s σ H Q I h
  refine wpAny_Call_Name_kw (ld_blt I hg hm hv ?_ hn hdb)
  exact PyProof.Rows.callWith_type0 (hc pins s σ H [] [] Q I .nil h)
end
end L2
namespace HT
open PySem PyProof.Rows
section
open PySem.SeqAt
open PySem.AutoSeq1 (wpAny_loadPart')
open PySem.MeetsSeq PySem.MeetsSeq2 PySem.MeetsSeq3
end
section
variable {prog : Program} {w : World} {A : Around} {E : Value → Shared → Prop} {s : Shared}
theorem cat_tup {t b : Addr} {vs ws : List Value} {Q : Value → Shared → Prop} (ht : IsTup s.heap t vs.toArray) (hb : IsTup s.heap b ws.toArray) (hv : vs ≠ [])
    (h1 : ws = [] → Q (.ref t) s) (h2 : ws ≠ [] → Q (.ref s.heap.objs.size) { s with heap := s.heap.push { cls := .type "tuple", data := .seq (vs ++ ws).toArray } })
    (hsz : vs.length + ws.length ≤ sizeLine) : wpAny (model prog w) A (binaryOp .Add (.ref t) (.ref b)) Q E s := by
  obtain ⟨⟨cls, dd, data, sl⟩, ho, hc, n, hd⟩ := id ht
  obtain ⟨⟨cls2, dd2, data2, sl2⟩, ho2, hc2, n2, hd2⟩ := id hb
  simp only at hc hd hc2 hd2
  subst hc hd hc2 hd2
  have e : vs.toArray ++ ws.toArray = (vs ++ ws).toArray := by simp
  by_cases hw : ws = []
  · exact concat_meets ⟨_, ho, rfl⟩ ⟨_, ho2, rfl⟩ noFill_tuple_add seq_tuple_add PySem.F.slot_tuple_add PySem.F.entry_tuple_add (PySem.F.args_tuple_add_2 _ _)
      (tuple_addW1 t b vs.toArray ws.toArray n n2 dd dd2 sl sl2 (by simpa using hv) (by simp [hw])) ⟨ho, ho2, h1 hw⟩
  · refine concat_meets ⟨_, ho, rfl⟩ ⟨_, ho2, rfl⟩ noFill_tuple_add seq_tuple_add PySem.F.slot_tuple_add PySem.F.entry_tuple_add (PySem.F.args_tuple_add_2 _ _)
      (tuple_addW2 t b vs.toArray ws.toArray n n2 dd dd2 sl sl2 (by simpa using hv) (by simpa using hw) (by rw [List.size_toArray, List.size_toArray]; exact hsz)) ⟨ho, ho2, ?_⟩
    rw [e]
    exact h2 hw
noncomputable def sIx (n d : Nat) : Option Int → Nat
  | none => d
  | some v => if v < 0 then (v + (n : Int)).toNat else min v.toNat n
end
end HT
namespace L2
open PySem PySem.Spec PyProof.Rows
noncomputable abbrev TO := St → Hp → (Option Int → Hp → Prop) → Prop
noncomputable def PO (X : Cx) (e : Option Expr) (t : TO) : Prop :=
  ∀ (pins : List (Addr × Obj)) (s : Shared) (σ : St) (H : Hp) (Q : Option Int → Hp → Prop), Inv X pins σ H s → t σ H Q →
    wpAny (model X.prog X.w) X.A (evalPart e X.env) (fun u s' => ∃ o H', Inv X pins σ H' s' ∧ IsPart u o ∧ Q o H') X.xe s
noncomputable def tNoPart : TO := fun _ H Q => Q none H
noncomputable def tPart (t : TE) : TO := fun σ H Q => t σ H fun x H1 => ∃ i, x = .int i ∧ Q (some i) H1
section
variable {X : Cx} {e : Expr} {te : TE} {lo hi : Option Expr} {tl th : TO} {pos p2 : Pos}
theorem po_none : PO X none tNoPart := by
  intro pins s σ H Q I h
  rw [evalPart_none]
  exact wpAny_pure ⟨none, H, I, .none, h⟩
theorem po_some (h : PE X e te) : PO X (some e) (tPart te) := by
  intro pins s σ H Q I hw
  rw [evalPart_some]
  refine thn (h pins s σ H _ I hw) fun u s1 ⟨x, H1, I1, r1, q1⟩ => ?_
  obtain ⟨i, rfl, q⟩ := q1
  obtain ⟨t, rfl⟩ := r1
  exact ⟨some i, H1, I1, .int i t, q⟩
noncomputable def SlR (X : Cx) (r : V → Option Int → Option Int → Hp → VK → Prop) : Prop :=
  ∀ (pins : List (Addr × Obj)) (s : Shared) (σ : St) (H : Hp) (x : V) (v vl vu : Value) (lo hi : Option Int) (sl : Addr) (Q : VK), Inv X pins σ H s → RelV x v → s.heap.IsSliceOf sl vl vu .none → IsPart vl lo → IsPart vu hi → r x lo hi H Q →
    ∃ T id, typeLookup (.type T) "__getitem__" = pure (some (.builtin id)) ∧ s.TypeIs v T ∧ wpAny (model X.prog X.w) X.A (getItem v (.ref sl)) (EP X pins σ Q) X.xe s
theorem SlR.or {r r' : V → Option Int → Option Int → Hp → VK → Prop} (h : SlR X r) (h' : SlR X r') : SlR X (fun x lo hi H Q => r x lo hi H Q ∨ r' x lo hi H Q) := by
  intro pins s σ H x v vl vu lo hi sl Q I rx hs pl pu q
  rcases q with q | q
  · exact h pins s σ H x v vl vu lo hi sl Q I rx hs pl pu q
  · exact h' pins s σ H x v vl vu lo hi sl Q I rx hs pl pu q
noncomputable def rCatT (K : PySem.W.Frag) : R2 := fun x y H Q => ∃ a b xs ys, x = .ref a ∧ y = .ref b ∧ SqT K H a xs ∧ SqT K H b ys ∧ xs ≠ [] ∧ xs.length + ys.length ≤ sizeLine ∧
  (ys = [] → Q (.ref a) H) ∧ (ys ≠ [] → ∀ p, H p = none → Q (.ref p) (upd H p (.tup (xs ++ ys))))
theorem Vals.nil_iff {xs : List V} {us : List Value} (r : Vals xs us) : us = [] ↔ xs = [] := by
  cases r with
  | nil => simp
  | cons _ _ => simp
theorem op_catT : OpR X (binaryOp .Add) (rCatT X.K) := by
  intro pins s σ H x y v u Q I rx ry h
  obtain ⟨a, b, xs, ys, rfl, rfl, ha, hb, hx, hz, q1, q2⟩ := h
  cases rx
  cases ry
  obtain ⟨its, r1, p1, _⟩ := I.tuple ha
  obtain ⟨its2, r2, p2, _⟩ := I.tuple hb
  refine HT.cat_tup p1 p2 (fun z => hx (r1.nil_iff.mp z)) (fun z => ⟨.ref a, H, I, rfl, q1 (r2.nil_iff.mp z)⟩) (fun z => ?_) (by rw [← r1.length, ← r2.length]; exact hz)
  refine ⟨.ref s.heap.objs.size, _, I.laid (t' := s.toks) (o := .tup (xs ++ ys)) (fun b ob q => Heap.get?_push_of_some _ q) (Nat.le_refl _) ?_, rfl, q2 (fun w => z (r2.nil_iff.mpr w)) _ (I.hok.fresh (Nat.le_refl _))⟩
  exact ⟨by rw [List.length_append]; exact hz, _, r1.append r2, IsTup.new _ _⟩
end
end L2
namespace L2
open PySem PySem.Spec PyProof.Rows
noncomputable def ixN (n : Nat) (i : Int) : Option Nat := if 0 ≤ i then (if i < n then some i.toNat else none) else if -(n : Int) ≤ i then some (i + n).toNat else none
noncomputable def atI {α : Type} (xs : List α) (i : Int) : Option α := (ixN xs.length i).bind fun j => xs[j]?
theorem ixN_seq {n : Nat} {i : Int} {j : Nat} (h : ixN n i = some j) : seqIndex? i n = some j ∧ j < n ∧ -(n : Int) ≤ i ∧ i < n := by
  unfold ixN at h
  by_cases h0 : 0 ≤ i
  · rw [if_pos h0] at h
    by_cases h1 : i < n
    · rw [if_pos h1] at h
      have e : i.toNat = j := Option.some.inj h
      exact ⟨by rw [seqIndex_of h0 h1, e], by omega, by omega, h1⟩
    · rw [if_neg h1] at h; cases h
  · rw [if_neg h0] at h
    by_cases h1 : -(n : Int) ≤ i
    · rw [if_pos h1] at h
      have e : (i + n).toNat = j := Option.some.inj h
      exact ⟨by rw [seqIndex_neg (by omega) h1, e], by omega, h1, by omega⟩
    · rw [if_neg h1] at h; cases h
theorem atI_get {α : Type} {xs : List α} {i : Int} {v : α} (h : atI xs i = some v) : ∃ j, seqIndex? i xs.length = some j ∧ xs[j]? = some v ∧ j < xs.length ∧ -(xs.length : Int) ≤ i ∧ i < xs.length := by
  unfold atI at h
  cases e : ixN xs.length i with
  | none => rw [e] at h; cases h
  | some j =>
    rw [e] at h
    obtain ⟨h1, h2, h3, h4⟩ := ixN_seq e
    exact ⟨j, h1, h, h2, h3, h4⟩
theorem atI_nat {α : Type} {xs : List α} {j : Nat} {v : α} (h : xs[j]? = some v) : atI xs (j : Int) = some v := by
  have hj : j < xs.length := (List.getElem?_eq_some_iff.mp h).1
  have e : ixN xs.length (j : Int) = some j := by
    unfold ixN
    rw [if_pos (by omega), if_pos (by omega)]; simp
  unfold atI; rw [e]; exact h
noncomputable def PlainIx (b : Expr) : Prop := ∀ o i, subscripted b false o i = operate [o, i] (getItem o i)
noncomputable def IxR (X : Cx) (r : R2) : Prop :=
  ∀ (value slice : Expr) (pins : List (Addr × Obj)) (s : Shared) (σ : St) (H : Hp) (x y : V) (v u : Value) (Q : VK), Inv X pins σ H s → RelV x v → RelV y u → r x y H Q →
    subscripted slice false v u = operate [v, u] (getItem v u) → wpAny (model X.prog X.w) X.A (subscriptTail value slice v u) (EP X pins σ Q) X.xe s
noncomputable def MtR (X : Cx) (id : String) (r : V → List V → Hp → VK → Prop) : Prop :=
  ∀ (pins : List (Addr × Obj)) (s : Shared) (σ : St) (H : Hp) (x : V) (xs : List V) (v : Value) (us : List Value) (Q : VK), Inv X pins σ H s → RelV x v → Vals xs us → r x xs H Q →
    wpAny (model X.prog X.w) X.A (call (.builtin id) (v :: us)) (EP X pins σ Q) X.xe s
section
variable {X : Cx} {a b : Expr} {ta tb : TE} {pos : Pos}
theorem IxR.or {r r' : R2} (h : IxR X r) (h' : IxR X r') : IxR X (fun x y H Q => r x y H Q ∨ r' x y H Q) := by
  intro value slice pins s σ H x y v u Q I rx ry q hs
  rcases q with q | q
  · exact h value slice pins s σ H x y v u Q I rx ry q hs
  · exact h' value slice pins s σ H x y v u Q I rx ry q hs
theorem pe_ix {r : R2} (hr : IxR X r) (ha : PE X a ta) (hb : PE X b tb) (hs : PlainIx b) : PE X (.Subscript a b pos) (tOp r ta tb) := by
  intro pins s σ H Q I h
  exact Subscript_ (binT ha hb I h fun v u s2 x y H2 I2 rx ry q => hr a b pins s2 σ H2 x y v u Q I2 rx ry q (hs _ _))
noncomputable def rIxL (K : PySem.W.Frag) : R2 := fun x y H Q => ∃ p xs i v, x = .ref p ∧ y = .int i ∧ SqL K H p xs ∧ atI xs i = some v ∧ Q v H
noncomputable def rIxT (K : PySem.W.Frag) : R2 := fun x y H Q => ∃ p xs i v, x = .ref p ∧ y = .int i ∧ SqT K H p xs ∧ atI xs i = some v ∧ Q v H
theorem ix_list : IxR X (rIxL X.K) := by
  intro value slice pins s σ H x y v u Q I rx ry h hs
  obtain ⟨p, xs, i, z, rfl, rfl, hq, he, q⟩ := h
  cases rx
  obtain ⟨t, rfl⟩ := ry
  obtain ⟨its, r, pl, hz⟩ := I.list hq
  obtain ⟨j, h1, h2, h3, h4, h5⟩ := atI_get he
  obtain ⟨w, ew, rw'⟩ := r.get h2
  have hl := r.length
  have hn := line63
  have fin : EP X pins σ Q w s := ⟨z, H, I, rw', q⟩
  by_cases h0 : 0 ≤ i
  · have hj : i.toNat = j := by
      rw [seqIndex_of h0 h5] at h1
      exact Option.some.inj h1
    exact item_listR pl.isList h0 (by omega) (by rw [hj]; simpa using ew) fin hs
  · have hj : (i + (its.toArray.size : Int)).toNat = j := by
      rw [seqIndex_neg (by omega) h4] at h1
      rw [List.size_toArray, ← hl]
      exact Option.some.inj h1
    exact subscriptTail_builtinR (x := w) pl.isList.typeIs slot_list_getitem.lookup
      (wpAny_getItem_list_neg (Q := fun r s' => r = w ∧ EP X pins σ Q r s') pl.isList (by omega) (by rw [List.size_toArray] <;> omega) (by omega) (by rw [hj]; simpa using ew) ⟨rfl, fin⟩) hs
theorem ix_tup : IxR X (rIxT X.K) := by
  intro value slice pins s σ H x y v u Q I rx ry h hs
  obtain ⟨p, xs, i, z, rfl, rfl, hq, he, q⟩ := h
  cases rx
  obtain ⟨t, rfl⟩ := ry
  obtain ⟨its, r, pl, hz⟩ := I.tuple hq
  obtain ⟨j, h1, h2, h3, h4, h5⟩ := atI_get he
  obtain ⟨w, ew, rw'⟩ := r.get h2
  have hl := r.length
  have hn := line63
  have fin : EP X pins σ Q w s := ⟨z, H, I, rw', q⟩
  exact subscriptTail_builtinR (x := w) pl.typeIs slot_tuple_getitem.lookup
    (getItem_tuple (j := j) (Q := fun r s' => r = w ∧ EP X pins σ Q r s') pl (by omega) (by omega) (by rw [List.size_toArray, ← hl]; exact h1) (by simpa using ew) ⟨rfl, fin⟩) hs
theorem mapSeq_set (its : List Value) (n j : Nat) (u : Value) : Obj.mapSeq (·.setIfInBounds j u) { cls := .type "list", data := .seq its.toArray n } = { cls := .type "list", data := .seq (its.set j u).toArray n } := by
  simp [Obj.mapSeq]
theorem Inv.lst {pins : List (Addr × Obj)} {σ : St} {H : Hp} {s : Shared} {p : Addr} {xs : List V} (I : Inv X pins σ H s) (h : H p = some (.lst xs)) :
    ∃ (its : List Value) (n : Nat), Vals xs its ∧ s.heap.get? p = some { cls := .type "list", data := .seq its.toArray n } ∧ xs.length ≤ sizeLine := by
  obtain ⟨z, its, n, r, e⟩ := I.hok p _ h
  exact ⟨its, n, r, e, z⟩
theorem Inv.lstUpd {pins : List (Addr × Obj)} {σ : St} {H : Hp} {s : Shared} {p : Addr} {xs ys : List V} {its its' : List Value} {n n' : Nat} {f : Obj → Obj} (I : Inv X pins σ H s) (h : H p = some (.lst xs))
    (ho : s.heap.get? p = some { cls := .type "list", data := .seq its.toArray n }) (hf : f { cls := .type "list", data := .seq its.toArray n } = { cls := .type "list", data := .seq its'.toArray n' }) (r : Vals ys its') (hz : ys.length ≤ sizeLine) (t : Nat) :
    Inv X pins σ (upd H p (.lst ys)) { s with heap := s.heap.update p f, toks := t } := by
  have e : (s.heap.update p f).get? p = some { cls := .type "list", data := .seq its'.toArray n' } := by
    rw [Heap.get?_update_self f ho (by rw [hf] <;> rfl), hf]
  refine I.write (x := p) (e := p) (by rw [h]; trivial) (.inl rfl) (fun b u hb q => (Heap.get?_update_other _ _ (Ne.symm hb)).trans q) ⟨_, e⟩ ?_
  exact ⟨hz, its', n', r, e⟩
noncomputable def rSetL : V → V → V → Hp → (Hp → Prop) → Prop := fun o i v H Q => ∃ p xs k j, o = .ref p ∧ i = .int k ∧ H p = some (.lst xs) ∧ ixN xs.length k = some j ∧ Q (upd H p (.lst (xs.set j v)))
theorem set_list : PSet X rSetL := by
  intro pins s σ H o i v ov iv u Q I ro ri rv h
  obtain ⟨p, xs, k, j, rfl, rfl, hp, hj, q⟩ := h
  cases ro
  obtain ⟨t, rfl⟩ := ri
  obtain ⟨its, n, r, ho, hz⟩ := I.lst hp
  obtain ⟨h1, h2, h3, h4⟩ := ixN_seq hj
  have hl := r.length
  have hn := line63
  have I' : Inv X pins σ (upd H p (.lst (xs.set j v))) { s with heap := s.heap.update p (Obj.mapSeq (·.setIfInBounds j u)) } :=
    I.lstUpd hp ho (mapSeq_set its n j u) (r.set rv j) (by rw [List.length_set]; exact hz) s.toks
  by_cases h0 : 0 ≤ k
  · have hk : k.toNat = j := by
      rw [seqIndex_of h0 h4] at h1
      exact Option.some.inj h1
    exact PySem.W.ki_setAt ho h0 (by omega) (by rw [List.size_toArray, ← hl]; exact h4) (by rw [hk]; exact ⟨_, I', q⟩)
  · have hk : (k + (its.toArray.size : Int)).toNat = j := by
      rw [seqIndex_neg (by omega) h3] at h1
      rw [List.size_toArray, ← hl]
      exact Option.some.inj h1
    exact PySem.W.ki_setBack ho (by omega) (by rw [List.size_toArray, ← hl]; exact h3) (by omega) (by rw [hk]; exact ⟨_, I', q⟩)
noncomputable def flatV : V → Bool
  | .non => true
  | .bl _ => true
  | .int _ => true
  | .str _ => true
  | _ => false
noncomputable def eqV : V → V → Bool
  | .non, .non => true
  | .bl a, .bl b => a == b
  | .bl a, .int b => (if a then 1 else 0) == b
  | .int a, .bl b => a == (if b then 1 else 0)
  | .int a, .int b => a == b
  | .str a, .str b => a == b
  | _, _ => false
theorem eqAt_V {A : Around} {s : Shared} {y x : V} {u v : Value} (ry : RelV y u) (rx : RelV x v) (fy : flatV y = true) (fx : flatV x = true) : SeqAt.EqAt A s u v (eqV y x) := by
  cases y with
  | non =>
    cases ry
    cases x with
    | non => cases rx; exact SeqAt.EqAt.same _
    | bl b => cases rx; exact SeqAt.EqAt.none_bool b
    | int b => obtain ⟨t, rfl⟩ := rx; exact SeqAt.EqAt.none_int b t
    | str b => obtain ⟨t, rfl⟩ := rx; exact SeqAt.EqAt.none_str b t
    | _ => exact absurd (show false = true from fx) Bool.false_ne_true
  | bl a =>
    cases ry
    cases x with
    | non => cases rx; exact SeqAt.EqAt.bool_none a
    | bl b => cases rx; exact SeqAt.EqAt.bool_bool a b
    | int b => obtain ⟨t, rfl⟩ := rx; exact SeqAt.EqAt.bool_int a b t
    | str b => obtain ⟨t, rfl⟩ := rx; exact SeqAt.EqAt.bool_str a b t
    | _ => exact absurd (show false = true from fx) Bool.false_ne_true
  | int a =>
    obtain ⟨t', rfl⟩ := ry
    cases x with
    | non => cases rx; exact SeqAt.EqAt.int_none a t'
    | bl b => cases rx; exact SeqAt.EqAt.int_bool a t' b
    | int b => obtain ⟨t, rfl⟩ := rx; exact SeqAt.EqAt.int_int a t' b t
    | str b => obtain ⟨t, rfl⟩ := rx; exact SeqAt.EqAt.int_str a t' b t
    | _ => exact absurd (show false = true from fx) Bool.false_ne_true
  | str a =>
    obtain ⟨t', rfl⟩ := ry
    cases x with
    | non => cases rx; exact SeqAt.EqAt.str_none a t'
    | bl b => cases rx; exact SeqAt.EqAt.str_bool a t' b
    | int b => obtain ⟨t, rfl⟩ := rx; exact SeqAt.EqAt.str_int a t' b t
    | str b => obtain ⟨t, rfl⟩ := rx; exact SeqAt.EqAt.str_str a t' b t
    | _ => exact absurd (show false = true from fx) Bool.false_ne_true
  | _ => exact absurd (show false = true from fy) Bool.false_ne_true
noncomputable def eqU (x : V) (u : Value) : Bool := match u with
  | .none => eqV .non x
  | .bool b => eqV (.bl b) x
  | .int i _ => eqV (.int i) x
  | .str z _ => eqV (.str z) x
  | _ => false
theorem eqU_of {x y : V} {u : Value} (r : RelV y u) (f : flatV y = true) : eqU x u = eqV y x := by
  cases y with
  | non => cases r; rfl
  | bl b => cases r; rfl
  | int i => obtain ⟨t, rfl⟩ := r; rfl
  | str z => obtain ⟨t, rfl⟩ := r; rfl
  | _ => exact absurd (show false = true from f) Bool.false_ne_true
theorem any_eqU {x : V} : ∀ {xs : List V} {us : List Value}, Vals xs us → xs.all flatV = true → us.any (eqU x) = xs.any fun y => eqV y x
  | _, _, .nil, _ => rfl
  | y :: xs, u :: us, .cons r t, f => by
    rw [List.all_cons, Bool.and_eq_true] at f
    rw [List.any_cons, List.any_cons, eqU_of r f.1, any_eqU t f.2]
theorem mem_eqAt {A : Around} {s : Shared} {x : V} {v : Value} (rx : RelV x v) (fx : flatV x = true) : ∀ {xs : List V} {us : List Value}, Vals xs us → xs.all flatV = true → ∀ u ∈ us, SeqAt.EqAt A s u v (eqU x u)
  | _, _, .nil, _ => fun u hu => by cases hu
  | y :: xs, u :: us, .cons r t, f => fun u' hu => by
    rw [List.all_cons, Bool.and_eq_true] at f
    rcases List.mem_cons.mp hu with rfl | hu
    · rw [eqU_of r f.1]; exact eqAt_V r rx f.1 fx
    · exact mem_eqAt rx fx t f.2 u' hu
noncomputable def inV (x : V) (xs : List V) : Bool := xs.any fun y => eqV y x
noncomputable def rIn (K : PySem.W.Frag) (neg : Bool) : R2 := fun x y H Q => ∃ p xs, y = .ref p ∧ (SqL K H p xs ∨ SqT K H p xs) ∧ flatV x = true ∧ xs.all flatV = true ∧ Q (.bl (if neg then !inV x xs else inV x xs)) H
theorem op_in_seq : OpR X (compareOp .In) (rIn X.K false) := by
  intro pins s σ H x y v u Q I rx ry h
  obtain ⟨p, xs, rfl, hq, fx, fs, q⟩ := h
  cases ry
  rcases hq with hq | hq
  · obtain ⟨its, r, pl, hz⟩ := I.list hq
    refine SeqAt.in_listAt (eqU x) pl.isList (fun w hw => mem_eqAt rx fx r fs w (by simpa using hw)) ⟨.bl _, H, I, rfl, ?_⟩
    rw [show its.toArray.any (eqU x) = its.any (eqU x) by simp, any_eqU r fs]
    exact q
  · obtain ⟨its, r, pl, hz⟩ := I.tuple hq
    refine SeqAt.in_tupleAt (eqU x) pl (fun w hw => mem_eqAt rx fx r fs w (by simpa using hw)) ⟨.bl _, H, I, rfl, ?_⟩
    rw [show its.toArray.any (eqU x) = its.any (eqU x) by simp, any_eqU r fs]
    exact q
theorem op_notIn_seq : OpR X (compareOp .NotIn) (rIn X.K true) := by
  intro pins s σ H x y v u Q I rx ry h
  obtain ⟨p, xs, rfl, hq, fx, fs, q⟩ := h
  cases ry
  rcases hq with hq | hq
  · obtain ⟨its, r, pl, hz⟩ := I.list hq
    refine SeqAt.notIn_listAt (eqU x) pl.isList (fun w hw => mem_eqAt rx fx r fs w (by simpa using hw)) ⟨.bl _, H, I, rfl, ?_⟩
    rw [show its.toArray.any (eqU x) = its.any (eqU x) by simp, any_eqU r fs]
    exact q
  · obtain ⟨its, r, pl, hz⟩ := I.tuple hq
    refine SeqAt.notIn_tupleAt (eqU x) pl (fun w hw => mem_eqAt rx fx r fs w (by simpa using hw)) ⟨.bl _, H, I, rfl, ?_⟩
    rw [show its.toArray.any (eqU x) = its.any (eqU x) by simp, any_eqU r fs]
    exact q
theorem call_len_seq : CallR X (.builtin "len") (fun xs H Q => ∃ p ys, xs = [.ref p] ∧ (SqL X.K H p ys ∨ SqT X.K H p ys) ∧ Q (.int ys.length) H) := by
  intro pins s σ H xs us Q I r h
  obtain ⟨p, ys, rfl, hq, q⟩ := h
  obtain ⟨u, rfl, rx⟩ := vals1 r
  cases rx
  have hn := line63
  rcases hq with hq | hq
  · obtain ⟨its, r', pl, hz⟩ := I.list hq
    have hlen := r'.length
    exact Calls.call_len_list pl.isList (by simp only [List.size_toArray] <;> omega) ⟨.int ys.length, H, I.tok _, ⟨s.toks + 1, by rw [List.size_toArray, hlen]⟩, q⟩
  · obtain ⟨its, r', pl, hz⟩ := I.tuple hq
    have hlen := r'.length
    exact len_tuple pl (by simp only [List.size_toArray] <;> omega) ⟨.int ys.length, H, I.tok _, ⟨s.toks + 1, by rw [List.size_toArray, hlen]⟩, q⟩
theorem CallR.or {f : Value} {r r' : List V → Hp → VK → Prop} (h : CallR X f r) (h' : CallR X f r') : CallR X f (fun xs H Q => r xs H Q ∨ r' xs H Q) := by
  intro pins s σ H xs us Q I rs q
  rcases q with q | q
  · exact h pins s σ H xs us Q I rs q
  · exact h' pins s σ H xs us Q I rs q
theorem call_list_of : CallR X (.type "list") (fun xs H Q => ∃ p ys, xs = [.ref p] ∧ (SqL X.K H p ys ∨ SqT X.K H p ys) ∧ ∀ l, H l = none → Q (.ref l) (upd H l (.lst ys))) := by
  intro pins s σ H xs us Q I r h
  obtain ⟨p, ys, rfl, hq, q⟩ := h
  obtain ⟨u, rfl, rx⟩ := vals1 r
  cases rx
  have fin : ∀ (its : List Value), Vals ys its → ys.length ≤ sizeLine → ∀ (h' : Heap) (c' : Nat), (∀ b o', s.heap.get? b = some o' → h'.get? b = some o') →
      h'.get? s.heap.objs.size = some { cls := .type "list", dict := none, data := .seq its.toArray c', slots := #[] } → EP X pins σ Q (.ref s.heap.objs.size) { s with heap := h' } := fun its r' hz h' c' kp e =>
    ⟨.ref s.heap.objs.size, _, I.laid (t' := s.toks) kp (Nat.le_refl _) (show ObjOk X.prog X.w _ h' _ (.lst ys) from ⟨hz, its, c', r', e⟩), rfl, q _ (I.hok.fresh (Nat.le_refl _))⟩
  rcases hq with hq | hq
  · obtain ⟨its, r', pl, hz⟩ := I.list hq
    have hlen := r'.length
    obtain ⟨o, ho, hc, n, hd⟩ := pl.isList
    exact call_list_seq p (.inl rfl) ho hc hd (fun h' c' kp e => fin its r' hz h' c' kp e) (by simp only [List.size_toArray] <;> omega)
  · obtain ⟨its, r', pl, hz⟩ := I.tuple hq
    have hlen := r'.length
    obtain ⟨o, ho, hc, n, hd⟩ := pl
    exact call_list_seq p (.inr rfl) ho hc hd (fun h' c' kp e => fin its r' hz h' c' kp e) (by simp only [List.size_toArray] <;> omega)
theorem call_tuple_of : CallR X (.type "tuple") (fun xs H Q => ∃ p ys, xs = [.ref p] ∧ ((SqL X.K H p ys ∧ ∀ l, H l = none → Q (.ref l) (upd H l (.tup ys))) ∨ (SqT X.K H p ys ∧ Q (.ref p) H))) := by
  intro pins s σ H xs us Q I r h
  obtain ⟨p, ys, rfl, h⟩ := h
  obtain ⟨u, rfl, rx⟩ := vals1 r
  cases rx
  rcases h with ⟨hq, q⟩ | ⟨hq, q⟩
  · obtain ⟨its, r', pl, hz⟩ := I.list hq
    have hlen := r'.length
    refine call_tuple_list pl.isList (fun h' kp => ?_) (by simp only [List.size_toArray] <;> omega)
    have I1 : Inv X pins σ H { s with heap := h' } := I.kept (t' := s.toks) kp
    have I2 : Inv X pins σ (upd H h'.objs.size (.tup ys)) { s with heap := h'.push { cls := .type "tuple", data := .seq its.toArray } } :=
      I1.laid (t' := s.toks) (fun b o e => Heap.get?_push_of_some _ e) (Nat.le_refl _) (show ObjOk X.prog X.w _ _ _ (.tup ys) from ⟨hz, its, r', IsTup.new _ _⟩)
    exact ⟨.ref h'.objs.size, _, I2, rfl, q _ (I1.hok.fresh (Nat.le_refl _))⟩
  · obtain ⟨its, r', pl, hz⟩ := I.tuple hq
    exact call_tuple_same pl ⟨.ref p, H, I, rfl, q⟩
noncomputable def tyV (K : PySem.W.Frag) (T : String) (x : V) (H : Hp) : Prop := match x with
  | .str _ => T = "str"
  | .int _ => T = "int"
  | .ref p => (T = "list" ∧ ∃ xs, SqL K H p xs) ∨ (T = "tuple" ∧ ∃ o, K.lookup p = some o ∧ o.cls = .type "tuple" ∧ o.dict = none) ∨
      (T = "dict" ∧ ((∃ kvs, H p = some (.dK kvs)) ∨ ∃ kvs, H p = some (.dT kvs))) ∨ (T = "set" ∧ ∃ S n, H p = some (.set S n))
  | _ => False
theorem tyV_is {pins : List (Addr × Obj)} {σ : St} {H : Hp} {s : Shared} {T : String} {x : V} {v : Value} (I : Inv X pins σ H s) (r : RelV x v) (ty : tyV X.K T x H) :
    s.TypeIs v T ∧ ∀ a, v = .ref a → ∃ ob, s.heap.get? a = some ob ∧ ob.dict = none := by
  cases x with
  | str z =>
    obtain ⟨t, rfl⟩ := r
    cases (show T = "str" from ty)
    exact ⟨typeIs_str s z t, fun _ e => nomatch e⟩
  | int i =>
    obtain ⟨t, rfl⟩ := r
    cases (show T = "int" from ty)
    exact ⟨typeIs_int s i t, fun _ e => nomatch e⟩
  | ref p =>
    cases r
    rcases ty with ⟨rfl, xs, hq⟩ | ⟨rfl, o, hk, hc, hd⟩ | ⟨rfl, hk⟩ | ⟨rfl, S, n, hk⟩
    · obtain ⟨its, _, pl, _⟩ := I.list hq
      refine ⟨pl.isList.typeIs, fun a e => ?_⟩
      cases e
      obtain ⟨o, n, e, c, hd, _⟩ := pl
      exact ⟨o, e, hd⟩
    · refine ⟨⟨o, I.kIn p o hk, hc⟩, fun a e => ?_⟩
      cases e
      exact ⟨o, I.kIn _ o hk, hd⟩
    · have z : ∃ o, s.heap.get? p = some o ∧ o.ExactDict := by
        rcases hk with ⟨kvs, hk⟩ | ⟨kvs, hk⟩
        · obtain ⟨_, _, _, _, o, _, _, e, ex, _⟩ := I.hok p _ hk
          exact ⟨o, e, ex⟩
        · obtain ⟨_, _, _, _, o, _, _, e, ex, _⟩ := I.hok p _ hk
          exact ⟨o, e, ex⟩
      obtain ⟨o, e, ex⟩ := z
      refine ⟨⟨o, e, ex.1⟩, fun a e2 => ?_⟩
      cases e2
      exact ⟨o, e, ex.2.1⟩
    · obtain ⟨o, _, _, _, e, ex, _⟩ := I.hok p _ hk
      refine ⟨⟨o, e, ex.1⟩, fun a e2 => ?_⟩
      cases e2
      exact ⟨o, e, ex.2.1⟩
  | _ => exact False.elim ty
noncomputable def tBM0 (K : PySem.W.Frag) (T : String) (r : V → List V → Hp → VK → Prop) (to : TE) : TE := fun σ H Q => to σ H fun x H1 => tyV K T x H1 ∧ r x [] H1 Q
noncomputable def tBM (K : PySem.W.Frag) (T : String) (r : V → List V → Hp → VK → Prop) (to : TE) (t : TA) : TE := fun σ H Q => to σ H fun x H1 => tyV K T x H1 ∧ t σ H1 fun xs H2 => r x xs H2 Q
variable {o e : Expr} {es : List Expr} {to : TE} {t : TA} {name : Str} {apos cpos : Pos} {T id : String} {r : V → List V → Hp → VK → Prop}
theorem pe_bm0 (pa : PlainAttrs T) (slot : Slot T name id) (hty : typeOf (.builtin id) = pure (.type "method_descriptor")) (hm : MtR X id r) (ho : PE X o to)
    (hbase : attributeBase o name X.env (eval o X.env) = eval o X.env := by rfl) (hline : (apos.endLine == cpos.line) = true := by rfl) : PE X (.Call (.Attribute o name apos) [] [] cpos) (tBM0 X.K T r to) := by
  intro pins s σ H Q I h
  refine wpAny_Call_method0_late hbase hline (thn (ho pins s σ H _ I h) fun v s1 ⟨x, H1, I1, r1, ty, q1⟩ => ?_)
  obtain ⟨h1, h2⟩ := tyV_is I1 r1 ty
  exact ⟨T, id, pa, slot, hty, h1, h2, Calls.callWith_builtin rfl (PySem.evalArgs_none (hm pins s1 σ H1 x [] v [] Q I1 r1 .nil q1))⟩
theorem pe_bm (pa : PlainAttrs T) (slot : Slot T name id) (hty : typeOf (.builtin id) = pure (.type "method_descriptor")) (hm : MtR X id r) (ho : PE X o to) (ha : PA X (e :: es) t)
    (hbase : attributeBase o name X.env (eval o X.env) = eval o X.env := by rfl)
    (hfew : ((backTo cpos (starEach (e :: es) X.env)).all (fun x => !x.1) && (backToKw cpos (keywordEach [] X.env)).all (fun x => x.1.isSome)
      && decide ((e :: es).length + ([] : List Keyword).length + (if ([] : List Keyword).isEmpty then 0 else 1) < 30)) = true := by rfl)
    (hline : (apos.endLine == cpos.line) = true := by rfl) (hs : starEach (e :: es) X.env = (false, eval e X.env) :: starEach es X.env := by rfl) (hplain : (backTo cpos (starEach es X.env)).any (·.1) = false := by rfl) :
    PE X (.Call (.Attribute o name apos) (e :: es) [] cpos) (tBM X.K T r to t) := by
  intro pins s σ H Q I h
  refine wpAny_Call_method_late hbase hfew hline rfl (thn (ho pins s σ H _ I h) fun v s1 ⟨x, H1, I1, r1, ty, q1⟩ => ?_)
  obtain ⟨h1, h2⟩ := tyV_is I1 r1 ty
  refine ⟨T, id, pa, slot, hty, h1, h2, ?_⟩
  have hA := ha cpos pins s1 σ H1 _ I1 q1
  rw [hs] at hA ⊢
  refine Calls.callWith_builtin (by show (false || (backTo cpos (starEach es X.env)).any (·.1)) = false; rw [hplain] <;> rfl) (Calls.evalArgs_plain ?_)
  exact thn hA fun us s2 ⟨vs, H2, I2, r2, q2⟩ => hm pins s2 σ H2 x vs v us Q I2 r1 r2 q2
/- xs.append(e), list.index on a module's tuple .. are MtR facts of 06m -/
end
end L2
namespace L2
open PySem PySem.Spec PyProof.Rows
noncomputable def MtM (X : Cx) (id : String) (r : V → List V → Hp → VK → Prop) : Prop :=
  ∀ (pins : List (Addr × Obj)) (s : Shared) (σ : St) (H : Hp) (x : V) (xs : List V) (v : Value) (us : List Value) (Q : VK), Inv X pins σ H s → RelV x v → Vals xs us → r x xs H Q →
    wpAny (model X.prog X.w) X.A (call (.builtin id) (v :: us)) (EP X pins σ Q) X.xe s
theorem Vals.one : ∀ {x : V} {us : List Value}, Vals [x] us → ∃ u, us = [u] ∧ RelV x u
  | _, _, .cons r .nil => ⟨_, rfl, r⟩
theorem Vals.two : ∀ {x y : V} {us : List Value}, Vals [x, y] us → ∃ u v, us = [u, v] ∧ RelV x u ∧ RelV y v
  | _, _, _, .cons r (.cons q .nil) => ⟨_, _, rfl, r, q⟩
theorem Vals.zero : ∀ {us : List Value}, Vals [] us → us = []
  | _, .nil => rfl
theorem Vals.dropLast {xs : List V} {us : List Value} (h : Vals xs us) : Vals xs.dropLast us.dropLast := by
  induction h with
  | nil => exact .nil
  | cons r t ih =>
    cases t with
    | nil => exact .nil
    | cons q t' => exact .cons r ih
theorem Vals.eraseIdx : ∀ {xs : List V} {us : List Value} (i : Nat), Vals xs us → Vals (xs.eraseIdx i) (us.eraseIdx i)
  | _, _, _, .nil => .nil
  | _, _, 0, .cons _ t => t
  | _, _, i + 1, .cons r t => .cons r (Vals.eraseIdx i t)
theorem Vals.reverse {xs : List V} {us : List Value} (h : Vals xs us) : Vals xs.reverse us.reverse := by
  induction h with
  | nil => exact .nil
  | cons r t ih => rw [List.reverse_cons, List.reverse_cons]; exact Vals.append ih (.cons r .nil)
theorem Vals.rep {xs : List V} {us : List Value} (h : Vals xs us) : ∀ k : Nat, Vals (List.replicate k xs).flatten (List.replicate k us).flatten
  | 0 => .nil
  | k + 1 => by
    rw [List.replicate_succ, List.replicate_succ, List.flatten_cons, List.flatten_cons]
    exact Vals.append h (Vals.rep h k)
theorem erase_last {α : Type} (l : List α) : l.eraseIdx (l.length - 1) = l.dropLast := by
  induction l with
  | nil => rfl
  | cons a r ih =>
    cases r with
    | nil => rfl
    | cons b r =>
      have e : (a :: b :: r).length - 1 = ((b :: r).length - 1) + 1 := by
        have h1 : (a :: b :: r).length = r.length + 2 := rfl
        have h2 : (b :: r).length = r.length + 1 := rfl
        omega
      rw [e, List.eraseIdx_cons_succ, ih]
      all_goals rfl
theorem len_erase {α : Type} : ∀ (l : List α) (i : Nat), (l.eraseIdx i).length ≤ l.length
  | [], _ => Nat.le_refl _
  | _ :: _, 0 => Nat.le_succ _
  | _ :: r, i + 1 => Nat.succ_le_succ (len_erase r i)
theorem foldl_rep (its : List Value) : ∀ (k : Nat) (acc : List Value),
    List.foldl (fun x1 x2 => x1 ++ x2) acc.toArray (List.replicate k its.toArray) = (acc ++ (List.replicate k its).flatten).toArray
  | 0, acc => by simp
  | k + 1, acc => by
    have e : acc.toArray ++ its.toArray = (acc ++ its).toArray := by simp
    have e2 : (acc ++ its) ++ (List.replicate k its).flatten = acc ++ (List.replicate (k + 1) its).flatten := by
      rw [List.replicate_succ, List.flatten_cons, List.append_assoc]
    rw [← e2, ← foldl_rep its k (acc ++ its), ← e, List.replicate_succ, List.foldl_cons]
section
variable {X : Cx} {pins : List (Addr × Obj)} {σ : St} {H : Hp} {s : Shared} {l b : Addr} {xs ys zs : List V}
theorem Inv.lset {its its' : List Value} {n : Nat} {f : Array Value → Array Value} {t' : Nat} (I : Inv X pins σ H s) (hH : H l = some (.lst xs))
    (e : s.heap.get? l = some { cls := .type "list", data := .seq its.toArray n }) (hf : f its.toArray = its'.toArray) (hv : Vals ys its') (hz : ys.length ≤ sizeLine) :
    Inv X pins σ (upd H l (.lst ys)) { s with heap := s.heap.update l (Obj.mapSeq f), toks := t' } := by
  have q := PySem.IsL.update e f
  rw [hf] at q
  refine I.write (x := l) (e := l) (by rw [hH]; exact trivial) (.inl rfl) (fun b' u hb hu => (Heap.get?_update_other s.heap (Obj.mapSeq f) (Ne.symm hb)).trans hu) ⟨_, q⟩ ?_
  exact ⟨hz, its', _, hv, q⟩
theorem Inv.lnew {its : List Value} {t' : Nat} (I : Inv X pins σ H s) (hv : Vals ys its) (hz : ys.length ≤ sizeLine) :
    Inv X pins σ (upd H s.heap.objs.size (.lst ys)) { s with heap := s.heap.push { cls := .type "list", data := .seq its.toArray }, toks := t' } :=
  I.laid (fun _ _ q => Heap.get?_push_of_some _ q) (Nat.le_refl _) ⟨hz, its, 0, hv, Heap.get?_push_size _ rfl⟩
theorem Inv.fresh (I : Inv X pins σ H s) : H s.heap.objs.size = none := I.hok.fresh (Nat.le_refl _)
theorem Inv.lstM (I : Inv X pins σ H s) (hH : H l = some (.lst xs)) : xs.length ≤ sizeLine ∧ ∃ (its : List Value) (n : Nat), Vals xs its ∧ xs.length = its.length ∧ s.heap.get? l = some { cls := .type "list", data := .seq its.toArray n } := by
  obtain ⟨z, its, n, r, e⟩ := I.hok l _ hH
  exact ⟨z, its, n, r, r.length, e⟩
theorem notLongL {n : Nat} (h : n ≤ sizeLine) : Builtin.List.listTooLong n = false := by
  unfold Builtin.List.listTooLong
  exact decide_eq_false (by omega)
end
section
variable {X : Cx}
noncomputable def rAppend : V → List V → Hp → VK → Prop := fun x vs H Q => ∃ l xs y, x = .ref l ∧ vs = [y] ∧ H l = some (.lst xs) ∧ xs.length < sizeLine ∧ Q .non (upd H l (.lst (xs ++ [y])))
theorem mt_append : MtM X "list.append" rAppend := by
  intro pins s σ H x vs v us Q I rx rv h
  obtain ⟨l, xs, y, rfl, rfl, hH, hz, q⟩ := h
  cases rx
  obtain ⟨u, rfl, ru⟩ := rv.one
  obtain ⟨z, its, n, r, hl, e⟩ := I.lstM hH
  refine call_meets F.slot_list_append ⟨_, e, rfl⟩ F.entry_list_append (F.args_list_append_2 _ _) (PySem.list_append l its.toArray n u (by rw [List.size_toArray]; omega)) ⟨e, ?_⟩
  refine ⟨.non, _, I.lset (its' := its ++ [u]) hH e (by simp) (r.append (.cons ru .nil)) ?_, rfl, q⟩
  rw [List.length_append, List.length_singleton]
  omega
noncomputable def rExtend : V → List V → Hp → VK → Prop := fun x vs H Q => ∃ l b xs zs, x = .ref l ∧ vs = [.ref b] ∧ H l = some (.lst xs) ∧ H b = some (.lst zs) ∧ xs.length + zs.length ≤ sizeLine ∧ Q .non (upd H l (.lst (xs ++ zs)))
theorem mt_extend : MtM X "list.extend" rExtend := by
  intro pins s σ H x vs v us Q I rx rv h
  obtain ⟨l, b, xs, zs, rfl, rfl, hH, hB, hz, q⟩ := h
  cases rx
  obtain ⟨u, rfl, ru⟩ := rv.one
  cases ru
  obtain ⟨z, its, n, r, hl, e⟩ := I.lstM hH
  obtain ⟨z2, its2, n2, r2, hl2, e2⟩ := I.lstM hB
  have hsz : its.toArray.size + its2.toArray.size ≤ sizeLine := by rw [List.size_toArray, List.size_toArray]; omega
  have hlong : ¬ (!its.toArray.isEmpty && Builtin.List.listTooLong (its.toArray.size + its2.toArray.size)) = true := by
    rw [notLongL hsz, Bool.and_false]
    exact Bool.false_ne_true
  refine call_meets F.slot_list_extend ⟨_, e, rfl⟩ F.entry_list_extend (F.args_list_extend_2 _ _)
    (AutoSeq1.list_extend_list_list_0 l its.toArray n b its2.toArray n2 hlong (by rw [List.size_toArray]; omega) (by omega)) ⟨e, e2, ?_⟩
  refine ⟨.non, _, I.lset (its' := its ++ its2) hH e (by simp) (r.append r2) ?_, rfl, q⟩
  rw [List.length_append]
  omega
noncomputable def rPop : V → List V → Hp → VK → Prop := fun x vs H Q => ∃ l xs y, x = .ref l ∧ vs = [] ∧ H l = some (.lst xs) ∧ xs[xs.length - 1]? = some y ∧ Q y (upd H l (.lst xs.dropLast))
theorem mt_pop : MtM X "list.pop" rPop := by
  intro pins s σ H x vs v us Q I rx rv h
  obtain ⟨l, xs, y, rfl, rfl, hH, hy, q⟩ := h
  cases rx
  have hus := rv.zero
  subst hus
  obtain ⟨z, its, n, r, hl, e⟩ := I.lstM hH
  obtain ⟨u, hu, ru⟩ := r.get hy
  have hy' : its.toArray[its.toArray.size - 1]? = some u := by
    show its.toArray[its.length - 1]? = some u
    rw [← Array.getElem?_toList, ← hl]
    exact hu
  refine call_meets F.slot_list_pop ⟨_, e, rfl⟩ F.entry_list_pop (F.args_list_pop_1 _) (MeetsSeq.list_pop_last l its.toArray n u hy' (by rw [List.size_toArray]; omega)) ⟨e, ?_⟩
  refine ⟨y, _, I.lset (its' := its.dropLast) hH e ?_ r.dropLast ?_, ru, q⟩
  · show its.toArray.eraseIdxIfInBounds (its.toArray.size - 1) = its.dropLast.toArray
    rw [List.size_toArray, List.eraseIdxIfInBounds_toArray, erase_last]
  · rw [List.length_dropLast]
    omega
noncomputable def rPopAt : V → List V → Hp → VK → Prop := fun x vs H Q => ∃ l xs i k y, x = .ref l ∧ vs = [.int i] ∧ H l = some (.lst xs) ∧ -(2 ^ 63) ≤ i ∧ i < 2 ^ 63 ∧ seqIndex? i xs.length = some k ∧ xs[k]? = some y ∧ Q y (upd H l (.lst (xs.eraseIdx k)))
theorem mt_popAt : MtM X "list.pop" rPopAt := by
  intro pins s σ H x vs v us Q I rx rv h
  obtain ⟨l, xs, i, k, y, rfl, rfl, hH, h1, h2, hk, hy, q⟩ := h
  cases rx
  obtain ⟨u, rfl, ru⟩ := rv.one
  obtain ⟨t, rfl⟩ := ru
  obtain ⟨z, its, n, r, hl, e⟩ := I.lstM hH
  obtain ⟨w, hw, rw'⟩ := r.get hy
  refine call_meets F.slot_list_pop ⟨_, e, rfl⟩ F.entry_list_pop (F.args_list_pop_2 _ _)
    (MeetsSeq.list_pop_at l its.toArray n i t k w (fitsIndex_both h1 h2) (by rw [List.size_toArray, ← hl]; exact hk) (by rw [← Array.getElem?_toList]; exact hw) (by rw [List.size_toArray]; omega)) ⟨e, ?_⟩
  refine ⟨y, _, I.lset (its' := its.eraseIdx k) hH e ?_ (r.eraseIdx k) ?_, rw', q⟩
  · show its.toArray.eraseIdxIfInBounds k = (its.eraseIdx k).toArray
    rw [List.eraseIdxIfInBounds_toArray]
  · have := len_erase xs k
    omega
noncomputable def rReverse : V → List V → Hp → VK → Prop := fun x vs H Q => ∃ l xs, x = .ref l ∧ vs = [] ∧ H l = some (.lst xs) ∧ Q .non (upd H l (.lst xs.reverse))
theorem mt_reverse : MtM X "list.reverse" rReverse := by
  intro pins s σ H x vs v us Q I rx rv h
  obtain ⟨l, xs, rfl, rfl, hH, q⟩ := h
  cases rx
  have hus := rv.zero
  subst hus
  obtain ⟨z, its, n, r, hl, e⟩ := I.lstM hH
  refine call_meets F.slot_list_reverse ⟨_, e, rfl⟩ F.entry_list_reverse (F.args_list_reverse_1 _) (AutoSeq1.list_reverse_list_0 l its.toArray n (by rw [List.size_toArray]; omega)) ⟨e, ?_⟩
  refine ⟨.non, _, I.lset (its' := its.reverse) hH e (by simp) r.reverse ?_, rfl, q⟩
  rw [List.length_reverse]
  omega
noncomputable def rClear : V → List V → Hp → VK → Prop := fun x vs H Q => ∃ l xs, x = .ref l ∧ vs = [] ∧ H l = some (.lst xs) ∧ Q .non (upd H l (.lst []))
theorem mt_clear : MtM X "list.clear" rClear := by
  intro pins s σ H x vs v us Q I rx rv h
  obtain ⟨l, xs, rfl, rfl, hH, q⟩ := h
  cases rx
  have hus := rv.zero
  subst hus
  obtain ⟨z, its, n, r, hl, e⟩ := I.lstM hH
  refine call_meets F.slot_list_clear ⟨_, e, rfl⟩ F.entry_list_clear (F.args_list_clear_1 _) (AutoSeq1.list_clear_list_0 l its.toArray n (by rw [List.size_toArray]; omega)) ⟨e, ?_⟩
  exact ⟨.non, _, I.lset (its' := []) (ys := []) hH e rfl .nil (Nat.zero_le _), rfl, q⟩
noncomputable def rCat : R2 := fun x y H Q => ∃ l b xs zs, x = .ref l ∧ y = .ref b ∧ H l = some (.lst xs) ∧ H b = some (.lst zs) ∧ xs.length + zs.length ≤ sizeLine ∧ ∀ p, H p = none → Q (.ref p) (upd H p (.lst (xs ++ zs)))
theorem op_cat : OpR X (binaryOp .Add) rCat := by
  intro pins s σ H x y v u Q I rx ry h
  obtain ⟨l, b, xs, zs, rfl, rfl, hH, hB, hz, q⟩ := h
  cases rx
  cases ry
  obtain ⟨z, its, n, r, hl, e⟩ := I.lstM hH
  obtain ⟨z2, its2, n2, r2, hl2, e2⟩ := I.lstM hB
  refine PySem.P.add_list e e2 ?_ (by rw [List.size_toArray, List.size_toArray]; omega)
  have ea : its.toArray ++ its2.toArray = (its ++ its2).toArray := by simp
  rw [ea]
  exact ⟨.ref _, _, I.lnew (t' := s.toks) (r.append r2) (by rw [List.length_append]; omega), rfl, q _ I.fresh⟩
noncomputable def rRep : R2 := fun x y H Q => ∃ l k xs, x = .ref l ∧ y = .int k ∧ H l = some (.lst xs) ∧ -(2 ^ 63) ≤ k ∧ k < 2 ^ 63 ∧ xs.length * k.toNat ≤ sizeLine ∧
  ∀ p, H p = none → Q (.ref p) (upd H p (.lst (List.replicate k.toNat xs).flatten))
theorem len_rep {α : Type} (xs : List α) (k : Nat) : (List.replicate k xs).flatten.length = k * xs.length := by
  induction k with
  | zero => simp
  | succ k ih => rw [List.replicate_succ, List.flatten_cons, List.length_append, ih, Nat.succ_mul, Nat.add_comm]
theorem op_rep : OpR X (binaryOp .Mult) rRep := by
  intro pins s σ H x y v u Q I rx ry h
  obtain ⟨l, k, xs, rfl, rfl, hH, h1, h2, hz, q⟩ := h
  cases rx
  obtain ⟨t, rfl⟩ := ry
  obtain ⟨z, its, n, r, hl, e⟩ := I.lstM hH
  have hlen : its.toArray.size * k.toNat ≤ sizeLine := by rw [List.size_toArray, ← hl]; exact hz
  have hcap : ¬ its.toArray.size * k.toNat > (2 ^ 63 - 1) / 8 := by
    have : (sizeLine : Nat) ≤ (2 ^ 63 - 1) / 8 := by decide
    omega
  have hfit : ¬ (!Builtin.List.listFitsIndex k) = true := by
    rw [fitsIndex_both h1 h2]
    exact Bool.false_ne_true
  have hlong : ¬ Builtin.List.listTooLong (its.toArray.size * k.toNat) = true := by
    rw [notLongL hlen]
    exact Bool.false_ne_true
  have hnew : List.foldl (fun x1 x2 => x1 ++ x2) #[] (List.replicate (if its.toArray.isEmpty = true then 0 else k.toNat) its.toArray) = (List.replicate k.toNat its).flatten.toArray := by
    have f0 : ∀ m : Nat, List.foldl (fun x1 x2 => x1 ++ x2) #[] (List.replicate m its.toArray) = (List.replicate m its).flatten.toArray := fun m => by
      have := foldl_rep its m []
      rw [List.nil_append] at this
      exact this
    rw [f0]
    cases its with
    | nil => simp
    | cons a r' => rw [if_neg (by simp)]
  refine wpAny_binaryOp_repeat_ref (T := "list") (U := "int") (by decide) ⟨_, e, rfl⟩ (fun s' => typeIs_int s' k t) noFill_list_mul F.fills_int_mul F.slot_int_rmul repeat_list F.slot_int_index.lookup
    (call_meets F.slot_int_rmul (typeIs_int s k t) F.entry_int_rmul (F.args_int_rmul_2 _ _) (int___rmul___int_list k t l its.toArray n)
      ⟨e, rfl, ⟨_, e, rfl⟩, call_meets F.slot_list_mul ⟨_, e, rfl⟩ F.entry_list_mul (F.args_list_mul_2 _ _) (AutoListH.list___mul___list_int_3 l its.toArray n k t hfit hcap hlong) ⟨e, ?_⟩⟩)
  rw [hnew]
  exact ⟨.ref _, _, I.lnew (t' := s.toks) (r.rep k.toNat) (by rw [len_rep, Nat.mul_comm]; exact hz), rfl, q _ I.fresh⟩
end
section
variable {prog : Program} {w : World} {A : Around} {E : Value → Shared → Prop} {s : Shared}
end
section
variable {X : Cx}
end
end L2
namespace Att
open PySem PySem.W PySem.Calls PyProof.Rows
theorem ints_of_wellAll {P : Params} {h : Heap} : ∀ (ns : List Int) (vs : List Value), WellAll P h vs (ns.map WData.int) → IntsAre vs ns := by
  intro ns
  induction ns with
  | nil =>
    intro vs w
    rw [List.map_nil] at w
    cases w
    exact .nil
  | cons n ns ih =>
    intro vs w
    rw [List.map_cons] at w
    cases w with
    | cons a b =>
      cases a
      exact .cons _ _ (ih _ b)
theorem script_of {l : OpenLaw} {n : Nat} (hn : l.most = some n) {P : Params} {h : Heap} {args : List WData} {vals : List Value}
    (hpre : l.row.toRowW.claim.pre args = true) (hwl : WellAll P h vals args) :
    ∃ a vs ns, vals = [Value.ref a] ∧ args = [WData.list (ns.map WData.int)] ∧ h.get? a = some { cls := .type "list", data := .seq vs.toArray } ∧ IntsAre vs ns ∧ ns.length ≤ n := by
  have hsh : WShape.hasAll [] args [.list .int] = true := (pre_splitW hpre).1
  have hc : l.pre.holds [] { args := args } = true := (pre_splitW hpre).2
  obtain ⟨d, r, rfl, h1, h2⟩ := hasAllW_cons hsh
  obtain rfl := hasAllW_nil h2
  obtain ⟨xs, rfl, h3⟩ := hasW_list h1
  obtain ⟨ns, rfl⟩ := items_int h3
  have hlen : ns.length ≤ n := by
    unfold OpenLaw.pre at hc
    have h4 : (WTm.not (.lt (.lit (.int (n : Int))) (.len (.arg 0)))).holds [] { args := [.list (ns.map .int)] } = true := by
      have h4 := (holds_andW hc).1
      rw [hn] at h4
      exact h4
    have h5 := condW_of h4 (w_not (w_lt w_lit (w_len_list (w_arg rfl))))
    rw [List.length_map] at h5
    refine Nat.le_of_not_lt fun q => ?_
    have q' : (n : Int) < ((ns.length : Nat) : Int) := by omega
    first
      | (rw [decide_eq_true q'] at h5; exact absurd h5 (by decide))
      | (simp at h5; omega)
  cases hwl with
  | cons w1 w2 =>
    cases w2
    cases w1 with
    | list ho hall => exact ⟨_, _, ns, rfl, rfl, ho, ints_of_wellAll ns _ hall, hlen⟩
theorem post_true (l : OpenLaw) (args : List WData) : l.row.toRowW.claim.post args (.bool true) args = true :=
  postW_of (r := l.row.toRowW) (X := (true == true))
    (show WShape.has [] (.bool true) .bool = true by first | rfl | decide | simp [WShape.has, WShape.arms, WShape.armsAll])
    (show (WTm.eq .res (.lit (.bool true))).value [] { args := args, res := some (.bool true), after := args } = some (.bool (true == true)) from w_eq_bool (w_res rfl) w_lit) rfl
theorem attach_call {l : OpenLaw} {n : Nat} {q : Program} {loose : List Str} {XP : (Str → Option Value) → Heap → Prop} {YP : World → Heap → Prop} {d : DefRec}
    (hn : l.most = some n) (hdf : d.params.defaults = [])
    (call : ∀ (w : World) (s₀ s₁ : Shared) (mg mb : Str → Option Value) (fa : Addr) (o : Obj) (pm cd doc : Value) (a : Addr) (vs : List Value) (ns : List Int),
      Ground q loose [] XP w s₀ mg mb s₁.heap → YP w s₁.heap →
      s₁.heap.get? fa = some o → o.data = .func (docDef d.name d.params d.body d.scope pm cd doc) → s₁.heap.CodeRec cd d.name → mg d.name = some (.ref fa) →
      s₁.heap.get? a = some { cls := .type "list", data := .seq vs.toArray } → IntsAre vs ns → ns.length ≤ n → s₁.gens = #[] →
      codeAny (model l.prog w) callerA (.call (.ref fa) ⟨[.ref a], []⟩) (fun r s' => r = .ok (.ret (.bool true)) ∧ OldK s₁.heap s'.heap ∧ s'.os = s₁.os ∧ AllBare s'.gens) s₁) :
    WalkO q loose XP YP l.row.toRowW d [] (fun f vs => PySem.call f vs) := by
  intro w s₀ s₁ mg mb G Y fa o pm cd doc dV kV ho hd hcd hD hmg hg args vals as hpre hlay hrd hwl hlo
  obtain rfl : dV = .none := Dflts.none hD hdf
  obtain rfl : kV = .none := Dflts.noKw hD
  obtain ⟨a, vs, ns, rfl, rfl, hobj, hints, hlen⟩ := script_of hn hpre hwl
  refine enter_call (codeAny_mono (call w s₀ s₁ mg mb fa o pm cd doc a vs ns G Y ho (fd_plain hd) hcd hmg hobj hints hlen hg) fun r s' hq => ?_)
  obtain ⟨rfl, h2, h3, h4⟩ := hq
  exact ⟨.inl ⟨.bool true, .bool true, [], rfl, fun _ => rfl, .bool true, post_true l _, fun _ => ⟨List.Pairwise.nil, fun _ hm => (nomatch hm)⟩⟩, h2, h3, h4⟩
section
variable {prog : Program} {w : World} {A : Around} {E : Value → Shared → Prop} {s : Shared} {K : Frag}
end
end Att
namespace L2
open PySem PySem.Spec PyProof.Rows
theorem vals_ints : ∀ {vs : List Value} {ns : List Int}, IntsAre vs ns → Vals (ns.map V.int) vs
  | _, _, .nil => .nil
  | _, _, .cons n t h => .cons ⟨t, rfl⟩ (vals_ints h)
noncomputable def Only (H : Hp) : Prop := ∀ b, H b = none ∨ ∃ o xs, H b = some (.frz o (.lst xs))
theorem law_call {P : Program} {w : World} {K : PySem.W.Frag} {mg mb : Str → Option Value} {CX : CXT} {k : Nat} {fa a : Addr} {fd : FuncData} {x : Str} {sp : Sp} {s₁ : Shared} {vs : List Value} {ns : List Int}
    (KX : K.In s₁.heap) (hns : s₁.heap.Ns mainGlobals mg) (hb : s₁.heap.Ns builtinsNs mb) (hbb : ∀ x : Str, x ≠ "__name__" → mb x = bootBuiltins x) (hlim : s₁.heap.NoLimit) (hg : s₁.gens = #[])
    (ha : s₁.heap.get? a = some { cls := .type "list", data := .seq vs.toArray }) (hi : IntsAre vs ns) (hl : ns.length ≤ sizeLine) (hr : Room k callerA)
    (F : ∀ base : Heap, K.In base → base.Ns mainGlobals mg → FnOk P w K mg base CX k fa fd [x] sp) (hbind : ∀ (s : Shared) (u : Value), BindsTo s fd ⟨[u], []⟩ [(x, u)])
    (hsp : ∀ H : Hp, Only H → SqL K H a (ns.map V.int) → sp [.ref a] H (fun v _ => v = .bl true) fun _ _ _ => False)
    (hCX : ∀ H e s', CX [] H s₁ (fun _ _ _ => False) e s' → False) :
    codeAny (model P w) callerA (.call (.ref fa) ⟨[.ref a], []⟩) (fun r s' => r = .ok (.ret (.bool true)) ∧ OldK s₁.heap s'.heap ∧ s'.os = s₁.os ∧ AllBare s'.gens) s₁ := by
  have rv := vals_ints hi
  have lenV := hi.length
  -- from an abstract heap in which nothing but the script may be tracked
  have core : ∀ H : Hp, Only H → SqL K H a (ns.map V.int) → HOk P w H s₁.heap → (∀ b, H b ≠ none → b = a) → (H a ≠ none → K.lookup a = none) →
      codeAny (model P w) callerA (.call (.ref fa) ⟨[.ref a], []⟩) (fun r s' => r = .ok (.ret (.bool true)) ∧ OldK s₁.heap s'.heap ∧ s'.os = s₁.os ∧ AllBare s'.gens) s₁ := by
    intro H hO hS hok hA hK
    have base_of : ∀ {b : Addr} {o : Obj}, s₁.heap.get? b = some o → H b = none → (hidT s₁.heap H).get? b = some o := fun e n => hidT_get e n
    have noA : ∀ {b : Addr} {o : Obj} {es : Array DictEntry} {ep : Nat}, s₁.heap.get? b = some o → o.data = .dict es ep → H b = none := fun {b o es ep} e d => by
      cases q : H b with
      | none => rfl
      | some u =>
        have e' : b = a := hA b (by rw [q]; simp)
        subst e'
        rw [ha] at e; cases e
        have d' : Data.seq vs.toArray _ = Data.dict es ep := d
        cases d'
    have nsK : ∀ {b : Addr} {m : Str → Option Value}, s₁.heap.Ns b m → (hidT s₁.heap H).Ns b m := fun {b m} ⟨o, es, ep, e, d, r⟩ => ⟨o, es, ep, base_of e (noA e d), d, r⟩
    have hKb : K.In (hidT s₁.heap H) := fun b o e => base_of (KX b o e) (by
      cases q : H b with
      | none => rfl
      | some u =>
        have e' : b = a := hA b (by rw [q]; simp)
        subst e'
        rw [hK (by rw [q]; simp)] at e; cases e)
    have hM : Mod K mg (hidT s₁.heap H) := ⟨hKb, nsK hns, ⟨mb, nsK hb, hbb⟩, let ⟨mc, h1, h2⟩ := hlim; ⟨mc, nsK h1, h2⟩⟩
    have e0 : Env0 P w K mg (hidT s₁.heap H) callerA [] s₁ H := ⟨rfl, hM, fun b o e => of_hidT e, Nat.le_of_eq (hidT_size _ _), trivial, fun b hb => absurd (show b ∈ ([] : List Addr) from hb) (by simp), hok, .of_eq hg⟩
    refine codeAny_mono ((F _ hKb (nsK hns)).run callerA [] s₁ H ⟨[.ref a], []⟩ [.ref a] [.ref a] _ _ hr e0 (hbind s₁ (.ref a)) (.cons rfl .nil) (hsp H hO hS)) fun r s' h => ?_
    cases r with
    | error e => exact (hCX H e s' h).elim
    | ok fl =>
      cases fl with
      | next => exact False.elim h
      | brk => exact False.elim h
      | cont => exact False.elim h
      | ret u =>
        obtain ⟨v, H', os, bare, un, hok', r', q⟩ := h
        have q' : v = .bl true := q
        subst q'
        obtain rfl : u = Value.bool true := r'
        refine ⟨rfl, OldK.of_keep fun b o e => ?_, os, bare⟩
        cases q : H b with
        | none => exact un.keep b o e q (by intro z; exact absurd (show b ∈ ([] : List Addr) from z) (by simp)) (by simp)
        | some u =>
          rcases hO b with z | ⟨ob, xs, z⟩
          · rw [q] at z; cases z
          · have z2 := un.frzs b ob _ z
            obtain ⟨e1, _⟩ := hok b _ z
            obtain ⟨e2, _⟩ := hok' b _ z2
            rw [e] at e1; cases e1
            exact e2
  cases hk : K.lookup a with
  | some o =>
    -- the script is one of the module's own objects
    have e := KX a o hk
    rw [ha] at e
    cases e
    refine core (fun _ => none) (fun _ => .inl rfl) (.inr ⟨_, vs.toArray, _, hk, rfl, rfl, rfl, by rw [List.size_toArray, lenV]; exact hl, by simpa using rv⟩) (fun b u z => by have z' : (none : Option HO) = some u := z; cases z') (fun b z => absurd rfl z) fun z => absurd rfl z
  | none =>
    refine core (fun b => if b = a then some (.frz { cls := .type "list", data := .seq vs.toArray } (.lst (ns.map V.int))) else none) (fun b => ?_) (.inl (.inr ⟨{ cls := .type "list", data := .seq vs.toArray }, if_pos rfl⟩)) (fun b u z => ?_) (fun b z => ?_) fun _ => hk
    · by_cases hb : b = a
      · exact .inr ⟨_, _, if_pos hb⟩
      · exact .inl (if_neg hb)
    · by_cases hb : b = a
      · have z' := (if_pos hb).symm.trans z
        cases z'
        subst hb
        exact ⟨ha, by rw [List.length_map]; exact hl, vs, _, rv, ha⟩
      · have z' := (if_neg hb).symm.trans z
        cases z'
    · by_cases hb : b = a
      · exact hb
      · exact absurd (if_neg hb) z
end L2
namespace L2
open PySem PySem.Spec PyProof.Rows
theorem walk_of {l : PySem.W.OpenLaw} {n k : Nat} {q : Program} {loose : List Str} {XP : (Str → Option Value) → Heap → Prop} {YP : World → Heap → Prop} {d : DefRec} {K : Params → PySem.W.Frag} {CX : World → CXT} {sp : World → Sp} {x : Str}
    (hn : l.most = some n) (hn2 : n ≤ sizeLine) (hdf : d.params.defaults = []) (hr : Room k callerA)
    (hY : ∀ (w : World) (h : Heap), YP w h → (K w.params).In h)
    (F : ∀ (w : World) (mg : Str → Option Value) (fa : Addr) (h : Heap), (K w.params).In h → h.Ns mainGlobals mg → mg d.name = some (.ref fa) →
      ∃ fd : FuncData, (∀ (s : Shared) (u : Value), BindsTo s fd ⟨[u], []⟩ [(x, u)]) ∧
        ∀ base : Heap, (K w.params).In base → base.Ns mainGlobals mg → FnOk l.prog w (K w.params) mg base (CX w) k fa fd [x] (sp w))
    (hsp : ∀ (w : World) (H : Hp) (a : Addr) (ns : List Int), ns.length ≤ n → Only H → SqL (K w.params) H a (ns.map V.int) → sp w [.ref a] H (fun v _ => v = .bl true) fun _ _ _ => False)
    (hCX : ∀ (w : World) (H : Hp) (s : Shared) (e : Value) (s' : Shared), CX w [] H s (fun _ _ _ => False) e s' → False) :
    PySem.W.WalkO q loose XP YP l.row.toRowW d [] (fun f vs => PySem.call f vs) := by
  refine Att.attach_call hn hdf fun w s₀ s₁ mg mb fa o pm cd doc a vs ns G Y ho hd hcd hmg hobj hints hlen hg => ?_
  have KX := hY w _ Y
  obtain ⟨fd, hb, hF⟩ := F w mg fa _ KX G.T.g hmg
  exact law_call KX G.T.g G.T.b G.T.builtins G.T.nolimit hg hobj hints (Nat.le_trans hlen hn2) hr hF hb (fun H hO hS => hsp w H a ns hlen hO hS) fun H e s' => hCX w H s₁ e s'
end L2

/- THE LAST THEOREM (shape; LID, My.* are yours):
   My.Adr: a structure of the addresses that your layer names (classes, functions); My.Txt K t: a structure (Prop) of the equations over K;
   My.txt_mk : {K} {implicit addresses ..} (e1 : nsIn K mainGlobals "law" = some (some (.ref f))) (e2 : K.lookup f = some ⟨oc, od, .func (fnOf "law" "law" params body scope dV kV doc pm an cdv ct), sl⟩) (e3 : codeIn K cdv "law" = true) .. : ∃ t, My.Txt K t

set_option maxRecDepth 100000 in
set_option maxHeartbeats 0 in
theorem PySem.Challenge.cw_LID_holds : PySem.Challenge.rw_LID.Holds := by
  w_on; o_law; k_head; (case hw => w_witness2)
  k_fill
  refine L2.walk_of (l := PySem.Challenge.rw_LID) (n := 63) (k := 40) (x := "script") (CX := fun w => ..) (sp := fun _ => My.sp_law) rfl (by decide) rfl ⟨rfl, by decide, by decide⟩ (fun w h Y => PySem.W.kIn_of Y) ?F ?S ?C
  case F =>
    intro w mg fa h KX G hmg
    have T : ∃ t, My.Txt (L2.KOf KX) t := by
      dsimp only [L2.KOf]                          -- K must stand as «<heap const> w.params» for k_is
      refine' My.txt_mk ?e1 ?e2 ?e3 ..
      (case e1 => PySem.W.k_is)                    -- in the order: a name -> its address -> its object -> its parts
      (case e2 => PySem.W.k_is)
      ..
    obtain ⟨t, T⟩ := T
    have e0 := hmg.symm.trans (PySem.W.mg_of KX G T.law)
    cases e0                                       -- fa is the law's own address
    exact ⟨_, fun s u => .of_eq rfl, fun base kb nb => My.law_fn T kb nb⟩     -- if «.of_eq rfl» comes too early: refine' ⟨_, ?b, fun base kb nb => My.law_fn T kb nb⟩; exact fun s u => .of_eq rfl
  case S => exact fun w H a ns hl hO hS => ..
  case C => exact ..
(the tactic k_is has no namespace: write k_is) -/
namespace L2
open PySem PySem.Spec PyProof.Rows
noncomputable def defArgs (s : Stmt) : Arguments := match s with
  | .FunctionDef _ a _ _ _ _ _ _ _ _ => a
  | _ => { posonlyargs := [], args := [], vararg := none, kwonlyargs := [], kw_defaults := [], kwarg := none, defaults := [] }
noncomputable def defBody (s : Stmt) : List Stmt := match s with
  | .FunctionDef _ _ b _ _ _ _ _ _ _ => b
  | _ => []
noncomputable def defScope (s : Stmt) : Scope := match s with
  | .FunctionDef _ _ _ _ _ _ sc _ _ _ => sc
  | _ => { kind := .function, names := [], isGenerator := false, isCoroutine := false }
noncomputable abbrev CX0 : CXT := fun _ _ _ _ _ _ => False
noncomputable abbrev E0 : XK := fun _ _ _ => False
theorem pass0 {X : Cx} : Passes CX0 X E0 := fun _ _ _ _ _ _ _ h => h.elim
structure Fun (K : PySem.W.Frag) (x qual : Str) (st : Stmt) (f : Addr) (fd : FuncData) : Prop where
  ex : ∃ (oc : Value) (od : Option Addr) (kV doc pm : Value) (an : Option Addr) (cdv ct : Value) (osl : Array (Option Value)),
    fd = PySem.W.fnOf x qual (defArgs st) (defBody st) (defScope st) .none kV doc pm an cdv ct ∧ K.lookup f = some ⟨oc, od, .func fd, osl⟩ ∧ PySem.W.codeIn K cdv qual = true
  kp : PySem.W.keepIn K (.ref f) = true
section
variable {P : Program} {w : World} {K : PySem.W.Frag} {mg : Str → Option Value} {base : Heap}
theorem Fun.ok {x qual : Str} {st : Stmt} {f : Addr} {fd : FuncData} {N ps : List Str} {k : Nat} {sp : Sp} (F : Fun K x qual st f fd) (S : FnScope N ps (defScope st)) (len : ∀ vs H Q E, sp vs H Q E → vs.length = ps.length)
    (hbody : ∀ (cdv : Value) (A : Around) (outer : List Env) (s : Shared) (H : Hp) (vs : List V) (Q : VK) (E : XK), Room k (A.deeper (envOfC qual (defScope st) s.heap.objs.size f cdv)) → sp vs H Q E →
      ∃ t, PSs (cxOf CX0 P w K mg base N qual (defScope st) f cdv A outer s H E).nox (defBody st) t ∧ t { nx := fun _ H' => Q .non H', rt := Q } (start N vs) H) : FnOk P w K mg base CX0 (k + 1) f fd ps sp := by
  obtain ⟨oc, od, kV, doc, pm, an, cdv, ct, osl, rfl, lk, hcd⟩ := F.ex
  refine fn_of lk hcd S len fun A outer s H vs Q E hr hsp => ?_
  obtain ⟨t, h, q⟩ := hbody cdv A outer s H vs Q E hr hsp
  exact ⟨t, h.nox, q⟩
theorem Fun.binds {x qual : Str} {st : Stmt} {f : Addr} {fd : FuncData} {ps : List Str} (F : Fun K x qual st f fd)
    (h : ∀ (kV doc pm : Value) (an : Option Addr) (cdv ct : Value) (us : List Value), us.length = ps.length → bindArgs (PySem.W.fnOf x qual (defArgs st) (defBody st) (defScope st) .none kV doc pm an cdv ct) ⟨us, []⟩ = pure (ps.zip us)) : Binds K fd ps [] := by
  obtain ⟨oc, od, kV, doc, pm, an, cdv, ct, osl, rfl, lk, hcd⟩ := F.ex
  exact .all (h kV doc pm an cdv ct)
theorem fun_mk {x qual : Str} {st : Stmt} {f : Addr} {oc : Value} {od an : Option Addr} {osl : Array (Option Value)} {kV doc pm cdv ct : Value} (l : K.lookup f = some ⟨oc, od, .func (PySem.W.fnOf x qual (defArgs st) (defBody st) (defScope st) .none kV doc pm an cdv ct), osl⟩)
    (c : PySem.W.codeIn K cdv qual = true) (k : PySem.W.keepIn K (.ref f) = true) : Fun K x qual st f (PySem.W.fnOf x qual (defArgs st) (defBody st) (defScope st) .none kV doc pm an cdv ct) := ⟨⟨oc, od, kV, doc, pm, an, cdv, ct, osl, rfl, l, c⟩, k⟩
end
section
variable {X : Cx}
end
end L2
set_option Elab.async false
set_option linter.all false
set_option maxRecDepth 100000
set_option maxHeartbeats 4000000
namespace L2
open PySem PySem.Spec PyProof.Rows
noncomputable def closL (env : Env) : List (Str × NameKind) → List (Str × Addr) → List (Str × Addr)
  | [], acc => acc
  | (n, k) :: r, acc => if k == .free then closL env r ((n, (env.cells.lookup n).getD 0) :: acc) else closL env r acc
theorem closureFor_closL {env : Env} {scope : Scope} (h : ∀ x ∈ scope.names, x.2 = .free → ∃ c, env.cells.lookup x.1 = some c) : closureFor scope env = pure (closL env scope.names []) := by
  unfold closureFor
  have go : ∀ (names : List (Str × NameKind)) (acc : List (Str × Addr)), (∀ x ∈ names, x.2 = .free → ∃ c, env.cells.lookup x.1 = some c) →
      (forIn names acc fun x r => match x with
        | (name, kind) => if (kind == NameKind.free) = true then do let __do_lift ← cellOf env name; pure (ForInStep.yield ((name, __do_lift) :: r)) else pure (ForInStep.yield r) : Sem (List (Str × Addr))) = pure (closL env names acc) := by
    intro names
    induction names with
    | nil => intro acc _; rfl
    | cons x r ih =>
      intro acc hx
      obtain ⟨n, k⟩ := x
      rw [List.forIn_cons]
      have hr := fun y hy => hx y (List.mem_cons_of_mem _ hy)
      by_cases hk : k = .free
      · subst hk
        obtain ⟨c, hc⟩ := hx (n, .free) List.mem_cons_self rfl
        have hc' : env.cells.lookup n = some c := hc
        unfold closL
        simp only [beq_self_eq_true, if_true, cellOf, hc', Option.getD_some, pure_bind]
        exact ih _ hr
      · have hb : (k == NameKind.free) = false := by simpa using hk
        unfold closL
        simp only [hb, Bool.false_eq_true, if_false, pure_bind]
        exact ih _ hr
  have := go scope.names [] h
  simp only [this]
  first | rfl | simp
theorem closL_mem {env : Env} : ∀ (names : List (Str × NameKind)) (acc : List (Str × Addr)), (∀ x ∈ names, x.2 = .free → ∃ c, env.cells.lookup x.1 = some c) → (∀ p ∈ acc, env.cells.lookup p.1 = some p.2) →
    ∀ p ∈ closL env names acc, env.cells.lookup p.1 = some p.2
  | [], _, _, ha, p, hp => ha p hp
  | (n, k) :: r, acc, h, ha, p, hp => by
    unfold closL at hp
    have hr := fun y hy => h y (List.mem_cons_of_mem _ hy)
    split at hp
    · rename_i hk
      have hk : k = .free := by simpa using hk
      obtain ⟨c, hc⟩ := h (n, k) List.mem_cons_self hk
      have hc' : env.cells.lookup n = some c := hc
      refine closL_mem r _ hr (fun q hq => ?_) p hp
      rcases List.mem_cons.mp hq with rfl | hq
      · show env.cells.lookup n = some ((env.cells.lookup n).getD 0)
        rw [hc']; rfl
      · exact ha q hq
    · exact closL_mem r acc hr ha p hp
theorem closL_acc {env : Env} : ∀ (names : List (Str × NameKind)) (acc : List (Str × Addr)), ∀ p ∈ acc, p ∈ closL env names acc
  | [], _, _, hp => hp
  | (n, k) :: r, acc, p, hp => by
    unfold closL
    split
    · exact closL_acc r _ p (List.mem_cons_of_mem _ hp)
    · exact closL_acc r acc p hp
theorem closL_has {env : Env} : ∀ (names : List (Str × NameKind)) (acc : List (Str × Addr)) (n : Str), (n, NameKind.free) ∈ names → ∃ c, (n, c) ∈ closL env names acc
  | (m, k) :: r, acc, n, hn => by
    unfold closL
    rcases List.mem_cons.mp hn with e | hn
    · cases e
      simp only [beq_self_eq_true, if_true]
      exact ⟨_, closL_acc r _ _ List.mem_cons_self⟩
    · split
      · exact closL_has r _ n hn
      · exact closL_has r _ n hn
theorem closL_names {env : Env} : ∀ (names : List (Str × NameKind)) (acc : List (Str × Addr)), ∀ p ∈ closL env names acc, p ∈ acc ∨ (p.1, NameKind.free) ∈ names
  | [], _, _, hp => .inl hp
  | (n, k) :: r, acc, p, hp => by
    unfold closL at hp
    split at hp
    · rename_i hk
      have hk : k = .free := by simpa using hk
      subst hk
      rcases closL_names r _ p hp with z | z
      · rcases List.mem_cons.mp z with rfl | z
        · exact .inr List.mem_cons_self
        · exact .inl z
      · exact .inr (List.mem_cons_of_mem _ z)
    · rcases closL_names r _ p hp with z | z
      · exact .inl z
      · exact .inr (List.mem_cons_of_mem _ z)
theorem cellsFrom_mem : ∀ (names : List (Str × NameKind)) (n : Nat) (acc : List (Str × Addr)), ∀ p ∈ cellsFrom n names acc, p ∈ acc ∨ (n ≤ p.2 ∧ (p.1, NameKind.cell) ∈ names)
  | [], _, _, _, hp => .inl hp
  | (x, k) :: r, n, acc, p, hp => by
    unfold cellsFrom at hp
    split at hp
    · rename_i hk
      have hk : k = .cell := by simpa using hk
      subst hk
      rcases cellsFrom_mem r (n + 1) _ p hp with z | ⟨z, w⟩
      · rcases List.mem_cons.mp z with rfl | z
        · exact .inr ⟨Nat.le_refl _, List.mem_cons_self⟩
        · exact .inl z
      · exact .inr ⟨Nat.le_of_succ_le z, List.mem_cons_of_mem _ w⟩
    · rcases cellsFrom_mem r n acc p hp with z | ⟨z, w⟩
      · exact .inl z
      · exact .inr ⟨z, List.mem_cons_of_mem _ w⟩
theorem cellsFrom_acc : ∀ (names : List (Str × NameKind)) (n : Nat) (acc : List (Str × Addr)), ∀ p ∈ acc, p ∈ cellsFrom n names acc
  | [], _, _, _, hp => hp
  | (x, k) :: r, n, acc, p, hp => by
    unfold cellsFrom
    split
    · exact cellsFrom_acc r _ _ p (List.mem_cons_of_mem _ hp)
    · exact cellsFrom_acc r _ _ p hp
theorem cellsFrom_has : ∀ (names : List (Str × NameKind)) (n : Nat) (acc : List (Str × Addr)) (x : Str), (x, NameKind.cell) ∈ names → ∃ c, (x, c) ∈ cellsFrom n names acc
  | (y, k) :: r, n, acc, x, hx => by
    unfold cellsFrom
    rcases List.mem_cons.mp hx with e | hx
    · cases e
      simp only [beq_self_eq_true, if_true]
      exact ⟨_, cellsFrom_acc r _ _ _ List.mem_cons_self⟩
    · split
      · exact cellsFrom_has r _ _ x hx
      · exact cellsFrom_has r _ _ x hx
theorem cellsFrom_new : ∀ (names : List (Str × NameKind)) (h : Heap) (acc : List (Str × Addr)), ∀ p ∈ cellsFrom h.objs.size names acc, p ∈ acc ∨ (pushCells h names).IsCell p.2 none
  | [], _, _, _, hp => .inl hp
  | (x, k) :: r, h, acc, p, hp => by
    unfold cellsFrom at hp
    unfold pushCells
    split at hp
    · rename_i hk
      rw [if_pos hk]
      have := cellsFrom_new r (h.push { cls := .type "cell", data := .cell none }) ((x, h.objs.size) :: acc) p (by rw [Heap.size_push]; exact hp)
      rcases this with z | z
      · rcases List.mem_cons.mp z with rfl | z
        · exact .inr ⟨_, pushCells_keeps _ _ _ _ (Heap.get?_push_size _ rfl), rfl⟩
        · exact .inl z
      · exact .inr z
    · rename_i hk
      rw [if_neg hk]
      exact cellsFrom_new r h acc p hp
theorem cellsFrom_apart : ∀ (names : List (Str × NameKind)) (n : Nat) (acc : List (Str × Addr)), (acc.Pairwise fun x y => x.2 ≠ y.2) → (∀ p ∈ acc, p.2 < n) → (cellsFrom n names acc).Pairwise fun x y => x.2 ≠ y.2
  | [], _, _, h, _ => h
  | (x, k) :: r, n, acc, h, hl => by
    unfold cellsFrom
    split
    · refine cellsFrom_apart r (n + 1) _ (List.pairwise_cons.mpr ⟨fun y hy e => ?_, h⟩) fun p hp => ?_
      · have h1 := hl y hy
        have e' : n = y.2 := e
        exact absurd h1 (by rw [← e']; exact Nat.lt_irrefl _)
      · rcases List.mem_cons.mp hp with rfl | hp
        · exact Nat.lt_succ_self _
        · exact Nat.lt_succ_of_lt (hl p hp)
    · exact cellsFrom_apart r n acc h hl
theorem closL_apart {env : Env} (inj : ∀ x y c, env.cells.lookup x = some c → env.cells.lookup y = some c → x = y) : ∀ (names : List (Str × NameKind)) (acc : List (Str × Addr)), (names.map (·.1)).Nodup →
    (∀ x ∈ names, x.2 = .free → ∃ c, env.cells.lookup x.1 = some c) → (acc.Pairwise fun x y => x.2 ≠ y.2) → (∀ p ∈ acc, env.cells.lookup p.1 = some p.2 ∧ p.1 ∉ names.map (·.1)) → (closL env names acc).Pairwise fun x y => x.2 ≠ y.2
  | [], _, _, _, h, _ => h
  | (n, k) :: r, acc, nd, hf, h, ha => by
    unfold closL
    have nd' := List.nodup_cons.mp nd
    have hr := fun y hy => hf y (List.mem_cons_of_mem _ hy)
    split
    · rename_i hk
      have hk : k = .free := by simpa using hk
      obtain ⟨c, hc⟩ := hf (n, k) List.mem_cons_self hk
      have hc' : env.cells.lookup n = some c := hc
      refine closL_apart inj r _ nd'.2 hr (List.pairwise_cons.mpr ⟨fun y hy e => ?_, h⟩) fun p hp => ?_
      · have e' : (env.cells.lookup n).getD 0 = y.2 := e
        rw [hc'] at e'
        have e2 : c = y.2 := e'
        have q := (ha y hy).1
        have := inj n y.1 c hc' (by rw [e2]; exact q)
        exact (ha y hy).2 (by rw [← this]; exact List.mem_cons_self)
      · rcases List.mem_cons.mp hp with rfl | hp
        · refine ⟨?_, nd'.1⟩
          show env.cells.lookup n = some ((env.cells.lookup n).getD 0)
          rw [hc']; rfl
        · exact ⟨(ha p hp).1, fun z => (ha p hp).2 (List.mem_cons_of_mem _ z)⟩
    · exact closL_apart inj r acc nd'.2 hr h fun p hp => ⟨(ha p hp).1, fun z => (ha p hp).2 (List.mem_cons_of_mem _ z)⟩
theorem relabel_lookup {env : Env} : ∀ (names : List (Str × NameKind)) (x : Str),
    (names.map fun (n, k) => if (k == NameKind.free && env.scope.kind == .function && env.kindOf n == some .cell) then (n, NameKind.cell) else (n, k)).lookup x =
      (names.lookup x).map fun k => if (k == NameKind.free && env.scope.kind == .function && env.kindOf x == some .cell) then NameKind.cell else k
  | [], x => rfl
  | (n, k) :: r, x => by
    have ih := relabel_lookup (env := env) r x
    rw [List.map_cons]
    show List.lookup x ((if (k == NameKind.free && env.scope.kind == .function && env.kindOf n == some .cell) = true then (n, NameKind.cell) else (n, k)) :: _) = _
    split
    · rename_i hc
      rw [List.lookup_cons, List.lookup_cons]
      cases hx : x == n with
      | false => exact ih
      | true =>
        have e : x = n := by simpa using hx
        subst e
        simp only [Option.map_some]
        rw [if_pos hc]
    · rename_i hc
      rw [List.lookup_cons, List.lookup_cons]
      cases hx : x == n with
      | false => exact ih
      | true =>
        have e : x = n := by simpa using hx
        subst e
        simp only [Option.map_some]
        rw [if_neg hc]
theorem mem_lookup_nodup {α : Type} : ∀ {l : List (Str × α)} {n : Str} {c : α}, (l.map (·.1)).Nodup → (n, c) ∈ l → l.lookup n = some c
  | (k, v) :: r, n, c, nd, h => by
    have nd' := List.nodup_cons.mp nd
    rw [List.lookup_cons]
    rcases List.mem_cons.mp h with e | h2
    · cases e; simp
    · cases hb : n == k with
      | true =>
        have e : n = k := by simpa using hb
        exact absurd (List.mem_map.mpr ⟨(n, c), h2, e⟩ : k ∈ r.map (·.1)) nd'.1
      | false => exact mem_lookup_nodup nd'.2 h2
theorem lookup_of_mem {α : Type} : ∀ {l : List (Str × α)} {n : Str} {c : α}, (n, c) ∈ l → ∃ d, l.lookup n = some d
  | (k, v) :: r, n, c, h => by
    rw [List.lookup_cons]
    cases hb : n == k with
    | true => exact ⟨v, rfl⟩
    | false =>
      rcases List.mem_cons.mp h with e | h
      · cases e; simp at hb
      · exact lookup_of_mem h
noncomputable abbrev compCx (X : Cx) (scope : Scope) (N' : List Str) (s2 : Shared) (H2 : Hp) (cs : List (Str × Addr)) (C : Addr) (fp : List Addr) : Cx where
  prog := X.prog
  w := X.w
  K := X.K
  mg := X.mg
  base := X.base
  A := X.A
  N := N'
  s₀ := s2
  H₀ := H2
  env := compEnvC scope cs C X.env
  outer := X.stack
  stack := X.stack
  ex := fp
  fn := fun x => scope.names.lookup x == some .cell
  calm := X.calm
  pn := X.pn
  xe := fun _ _ => False
noncomputable def compOk (sc0 sc : Scope) (own cn N : List Str) (js : List Nat) : Bool :=
  (decide (sc.kind = .function)) && (sc.names.all fun x => !decide (x.2 = .free) || decide (sc0.names.lookup x.1 = some .cell) || decide (sc0.names.lookup x.1 = some .free))
  && decide ((sc.names.map (·.1)).Nodup) && (own.all fun x => decide (sc.names.lookup x = some .local) || decide (sc.names.lookup x = some .cell)) && (cn.all fun x => decide (sc.names.lookup x = some .free))
  && decide ((own ++ cn).Nodup) && decide (js.map (fun j => N[j]?) = cn.map some)
noncomputable def capS (k : Nat) (js : List Nat) (σ : St) : St := List.replicate k none ++ js.map fun j => (σ[j]?).join
noncomputable def PIfs (X : Cx) (ifs : List Expr) (t : TT) : Prop :=
  ∀ (pins : List (Addr × Obj)) (s : Shared) (σ : St) (H : Hp) (Q : Bool → Hp → Prop), Inv X pins σ H s → t σ H Q →
    wpAny (model X.prog X.w) X.A (forIn ifs true fun c r => if r = true then do let ok ← isTrue c X.env (eval c X.env); pure (ForInStep.yield ok) else pure (ForInStep.yield r)) (TP X pins σ Q) X.xe s
theorem pifs_nil {X : Cx} : PIfs X [] (fun _ H Q => Q true H) := fun _ _ _ H _ I h => wpAny_tests_nil ⟨H, I, h⟩
theorem pifs_one {X : Cx} {c : Expr} {t : TT} (h : PT X c t) : PIfs X [c] t := fun pins s σ H Q I hw => wpAny_tests_one (h pins s σ H Q I hw)
theorem comp_env {M : Model} {A : Around} {E : Value → Shared → Prop} {s : Shared} {scope : Scope} {env : Env} {cl : List (Str × Addr)} {Q : Env → Shared → Prop}
    (h : Q (newEnv scope s.heap.objs.size env.globals (cellsFrom (s.heap.objs.size + 1) scope.names cl) env.qual none .none (some env) builtinsNs) { s with heap := pushCells (s.heap.push { cls := .type "dict", data := .dict #[] }) scope.names }) :
    wpAny M A (newFunctionEnv scope env.globals cl [] env.qual none .none (some env)) Q E s := by
  simp only [newFunctionEnv, Option.isSome_some, if_true]
  refine wpAny_bind (wpAny_alloc ?_)
  refine wpAny_bind (wpAny_layCells _ (fun name kind cells => by cases hkc : kind == NameKind.cell <;> simp [hkc]) _ _ _ _ ?_)
  rw [show ({ s with heap := s.heap.push { cls := .type "dict", data := .dict #[] } } : Shared).heap.objs.size = s.heap.objs.size + 1 from Heap.size_push ..]
  refine wpAny_bind ?_
  rw [List.forIn_nil]
  exact wpAny_pure (wpAny_pure h)
theorem codeAny_compLoop_own {prog : Program} {w : World} {A : Around} {R : Result → Shared → Prop} {s : Shared} {elt target iter : Expr} {ifs : List Expr} {scope : Scope} {pos : Pos} {it acc : Value} {env : Env} (I : Nat → Shared → Prop)
    (turn : ∀ n s, I n s → wpAny (model prog w) A (pyNext it) (fun r s₁ => match r with
      | none => R (.ok .next) s₁
      | some v => wpAny (model prog w) A (letOwnedTupleGo target it v) (fun _ s₁' => wpAny (model prog w) A (assign target env v) (fun _ s₂ =>
          wpAny (model prog w) A (forIn ifs true fun c r => if r = true then do let ok ← isTrue c env (eval c env); pure (ForInStep.yield ok) else pure (ForInStep.yield r)) (fun ok s₃ =>
            if ok = true then wpAny (model prog w) A (eval elt env) (fun x s₄ =>
              wpAny (model prog w) A (call (.builtin "list.append") [acc, x]) (fun _ s₅ => ∃ m, m < n ∧ I m s₅) (fun _ _ => False) s₄) (fun _ _ => False) s₃
            else ∃ m, m < n ∧ I m s₃) (fun _ _ => False) s₂) (fun _ _ => False) s₁') (fun _ _ => False) s₁) (fun _ _ => False) s)
    (n : Nat) (h : I n s) :
    codeAny (model prog w) A (.compLoop (.ListComp elt [⟨target, iter, ifs, 0⟩] scope pos) 0 it acc env) R s := by
  refine codeAny_loop rfl I (fun n s hI => ?_) n h
  show wpAny _ A ((compTurn (.ListComp elt [⟨target, iter, ifs, 0⟩] scope pos) 0 it acc env).onRaise (fun x => do noteFrame x env; theTreesLotGoes x)) _ _ s
  refine wpAny_noted ?_
  rw [compTurn_list]
  refine wpAny_bind (wpAny_standAt (wpAny_bind (wpAny_mono (turn n s hI) (fun r s₁ h₁ => ?_) fun _ _ h' => False.elim h')))
  cases r with
  | none => exact wpAny_pure h₁
  | some v =>
    refine wpAny_bind (wpAny_mono h₁ (fun _ s₁' h₁' => ?_) fun _ _ h' => False.elim h')
    refine wpAny_bind (wpAny_mono h₁' (fun _ s₂ h₂ => wpAny_bind (wpAny_mono h₂ (fun ok s₃ h₃ => ?_) fun _ _ h' => False.elim h')) fun _ _ h' => False.elim h')
    cases ok with
    | false => exact wpAny_pure ⟨rfl, h₃⟩
    | true =>
      exact wpAny_bind (wpAny_bind (wpAny_mono h₃ (fun x s₄ h₄ => wpAny_bind (wpAny_mono h₄ (fun _ s₅ h₅ => wpAny_pure (wpAny_pure ⟨rfl, h₅⟩)) fun _ _ h' => False.elim h')) fun _ _ h' => False.elim h'))
noncomputable def CompW (J : It) (g : TG) (tt : TT) (te : TE) (D : Addr) (σ' : St) (Q : List V → Hp → Prop) (W : Nat → Nat → List V → Hp → Prop) : Prop :=
  ∀ i m ys H, W i m ys H → (J.stop i H ∧ Q ys H) ∨ (J.go i H ∧ ∃ N : List V → Hp → Prop, (∀ ys' H', N ys' H' → ∃ m', m' < m ∧ W (i + 1) m' ys' H') ∧ ∀ x H', J.yld i H x H' → g x σ' H' fun σ2 H2 => tt σ2 H2 fun b H3 =>
    if b = true then te σ2 H3 fun v H4 => H4 D = some (.lst ys) ∧ ys.length < sizeLine ∧ N (ys ++ [v]) (upd H4 D (.lst (ys ++ [v]))) else N ys H3)
noncomputable def tComp (wi : TI) (g : TG) (tt : TT) (te : TE) (k : Nat) (js : List Nat) : TE := fun σ H Q => wi σ H fun J H1 => ∀ D, H1 D = none →
  ∃ W : Nat → Nat → List V → Hp → Prop, (∃ m, W 0 m [] (upd H1 D (.lst []))) ∧ CompW J g tt te D (capS k js σ) (fun _ H => Q (.ref D) H) W
section
variable {X : Cx} {pins : List (Addr × Obj)} {σ : St} {H2 : Hp} {s2 : Shared} {tg elt iter : Expr} {ifs : List Expr} {scope : Scope} {pos : Pos} {own cn : List Str} {js : List Nat} {g : TG} {tt : TT} {te : TE}
theorem comp_block (hok : compOk X.env.scope scope own cn X.N js = true) (hc : X.calm = true)
    (hg : ∀ s2 H2 cs C fp, PG (compCx X scope (own ++ cn) s2 H2 cs C fp) tg g) (ht : ∀ s2 H2 cs C fp, PIfs (compCx X scope (own ++ cn) s2 H2 cs C fp) ifs tt) (he : ∀ s2 H2 cs C fp, PE (compCx X scope (own ++ cn) s2 H2 cs C fp) elt te)
    (I2 : Inv X pins σ H2 s2) {it : Addr} {fp : List Addr} {tn : Nat → Heap → Prop} {J : It} (T : Turn X.prog X.w X.K tg J fp it tn) (st2 : tn 0 s2.heap) (f2 : ∀ b ∈ fp, FpOk X pins H2 b)
    {Qe : Hp → Prop} (hW : ∃ W : Nat → Nat → List V → Hp → Prop, (∃ m, W 0 m [] (upd H2 s2.heap.objs.size (.lst []))) ∧ CompW J g tt te s2.heap.objs.size (capS own.length js σ) (fun _ H => Qe H) W)
    {RR : Value → Addr → Result → Shared → Prop}
    (hRR : ∀ C H' s', Inv X pins σ H' s' → FpOk X pins H' C → (∃ m, s'.heap.Ns C m) → Qe H' → RR (.ref s2.heap.objs.size) C (.ok .next) s') :
    wpAny (model X.prog X.w) X.A (newList []) (fun acc s₃ => wpAny (model X.prog X.w) X.A (newFunctionEnv scope X.env.globals (closL X.env scope.names []) [] X.env.qual none .none (some X.env)) (fun cenv s₄ =>
      codeAny (model X.prog X.w) X.A (.compStart (.ListComp elt [⟨tg, iter, ifs, 0⟩] scope pos) 0 (.ref it) acc { cenv with scope := relabel scope X.env }) (RR acc cenv.locals) s₄) X.xe s₃) X.xe s2 := by
  unfold compOk at hok
  simp only [Bool.and_eq_true, decide_eq_true_eq, List.all_eq_true, Bool.or_eq_true, Bool.not_eq_true', decide_eq_false_iff_not] at hok
  obtain ⟨⟨⟨⟨⟨⟨k1, k2⟩, k3⟩, k4⟩, k5⟩, k6⟩, k7⟩ := hok
  have hfreeK : ∀ x ∈ scope.names, x.2 = .free → X.env.kindOf x.1 = some .cell ∨ X.env.kindOf x.1 = some .free := fun x hx hf => by
    rcases k2 x hx with (z | z) | z
    · exact absurd hf z
    · exact .inl z
    · exact .inr z
  have hfree : ∀ x ∈ scope.names, x.2 = .free → ∃ c, X.env.cells.lookup x.1 = some c := fun x hx hf => I2.ok.has x.1 (hfreeK x hx hf)
  -- the heap behind the making
  refine wpAny_newObj_type (comp_env ?_)
  have hsz3 : (s2.heap.push { cls := .type "list", dict := none, data := .seq ([] : List Value).toArray }).objs.size = s2.heap.objs.size + 1 := Heap.size_push ..
  dsimp only
  generalize hh3 : s2.heap.push { cls := .type "list", dict := none, data := .seq ([] : List Value).toArray } = h3 at hsz3 ⊢
  have old3 : ∀ b o, s2.heap.get? b = some o → h3.get? b = some o := fun b o e => hh3 ▸ Heap.get?_push_of_some _ e
  have hD3 : h3.get? s2.heap.objs.size = some { cls := .type "list", data := .seq ([] : List Value).toArray } := hh3 ▸ Heap.get?_push_size _ rfl
  generalize hcs : cellsFrom (h3.objs.size + 1) scope.names (closL X.env scope.names []) = cs
  generalize hh4 : pushCells (h3.push { cls := .type "dict", data := .dict #[] }) scope.names = h4
  have old4 : ∀ b o, h3.get? b = some o → h4.get? b = some o := fun b o e => hh4 ▸ pushCells_keeps _ _ b o (Heap.get?_push_of_some _ e)
  have old : ∀ b o, s2.heap.get? b = some o → h4.get? b = some o := fun b o e => old4 b o (old3 b o e)
  have hD4 : h4.get? s2.heap.objs.size = some { cls := .type "list", data := .seq ([] : List Value).toArray } := old4 _ _ hD3
  have hNs : h4.Ns h3.objs.size (fun _ => none) := hh4 ▸ (Heap.Ns.new h3 (.type "dict")).keeps (pushCells_keeps _ _)
  generalize hC : h3.objs.size = C at hNs hcs ⊢
  have hCD : @Eq Nat C (s2.heap.objs.size + 1) := by rw [← hC]; exact hsz3
  have clM := closL_mem (env := X.env) scope.names [] hfree (fun p hp => absurd hp (by simp))
  have cellLt : ∀ x c, X.env.cells.lookup x = some c → @LT.lt Nat _ c s2.heap.objs.size := fun x c e => by obtain ⟨v, z⟩ := I2.cell x c e; exact z.lt
  have apart : cs.Pairwise fun x y => x.2 ≠ y.2 := by
    rw [← hcs]
    refine cellsFrom_apart _ _ _ (closL_apart I2.ok.inj scope.names [] k3 hfree List.Pairwise.nil fun p hp => absurd hp (by simp)) fun p hp => ?_
    have := cellLt _ _ (clM p hp)
    show @LT.lt Nat _ p.2 (C + 1)
    omega
  have csM : ∀ p ∈ cs, X.env.cells.lookup p.1 = some p.2 ∨ (C + 1 ≤ p.2 ∧ (p.1, NameKind.cell) ∈ scope.names ∧ h4.IsCell p.2 none) := fun p hp => by
    have hp0 := hp
    rw [← hcs] at hp
    rcases cellsFrom_mem _ _ _ p hp with z | ⟨z, y⟩
    · exact .inl (clM p z)
    · have e : h3.objs.size + 1 = (h3.push { cls := .type "dict", data := .dict #[] }).objs.size := by rw [Heap.size_push]
      have hp' := hp
      rw [← hC, e] at hp'
      rcases cellsFrom_new _ _ _ p hp' with q | q
      · exact .inl (clM p q)
      · exact .inr ⟨z, y, hh4 ▸ q⟩
  -- facts of the block's context
  have hX : (compCx X scope (own ++ cn) s2 H2 cs C fp).Ok := by
    refine ⟨I2.ok.mod, k1, I2.ok.glob, I2.ok.blt, by show @LE.le Nat _ s2.heap.objs.size C; omega, fun x y c h1 h2 => name_of_addr apart (PySem.mem_of_lookup h1) (PySem.mem_of_lookup h2), fun x hx => ?_, fun x c hf hx => ?_, I2.ok.hd, I2.ok.frames, .inl rfl, fun b hb => ?_, I2.bs, Nat.le_trans I2.ok.bsz I2.sz, fun b o e hb => ?_, fun b hb hf => ?_, I2.stack, I2.stkFree⟩
    · have hx' : (relabel scope X.env).names.lookup x = some .cell ∨ (relabel scope X.env).names.lookup x = some .free := hx
      have hl : scope.names.lookup x = some .cell ∨ scope.names.lookup x = some .free := by
        unfold relabel at hx'
        dsimp only at hx'
        rw [relabel_lookup] at hx'
        cases e : scope.names.lookup x with
        | none => rw [e] at hx'; simp at hx'
        | some k =>
          rw [e] at hx'
          cases k <;> simp_all
      have : ∃ c, (x, c) ∈ cs := by
        rw [← hcs]
        rcases hl with hl | hl
        · exact cellsFrom_has _ _ _ x (PySem.mem_of_lookup hl)
        · obtain ⟨c, hc'⟩ := closL_has (env := X.env) scope.names [] x (PySem.mem_of_lookup hl)
          exact ⟨c, cellsFrom_acc _ _ _ _ hc'⟩
      obtain ⟨c, hm⟩ := this
      exact lookup_of_mem hm
    · have hf' : scope.names.lookup x = some .cell := by simpa using hf
      have hm := PySem.mem_of_lookup (show cs.lookup x = some c from hx)
      rcases csM _ hm with z | ⟨z, _⟩
      · -- own cells are not captured ones: the captured of that name would be free in the scope
        rw [← hcs] at hm
        rcases cellsFrom_mem _ _ _ _ hm with q | ⟨q, _⟩
        · rcases closL_names (env := X.env) scope.names [] _ q with q' | q'
          · exact absurd q' (by simp)
          · have := mem_lookup_nodup k3 q'
            have h2 : scope.names.lookup x = some .free := this
            rw [hf'] at h2; cases h2
        · show @LE.le Nat _ s2.heap.objs.size c
          have q2 : @LE.le Nat _ (C + 1) c := q
          omega
      · show @LE.le Nat _ s2.heap.objs.size c
        have z2 : @LE.le Nat _ (C + 1) c := z
        omega
    · obtain ⟨f0, f1, f2', f3, f4, f5⟩ := f2 b hb
      obtain ⟨o, ho, _⟩ := T.obj 0 _ st2 b hb
      have hb2 : @LT.lt Nat _ b s2.heap.objs.size := Heap.lt_size ho
      refine ⟨?_, fun x c e => ?_⟩
      · show @Ne Nat b C
        omega
      · rcases csM _ (PySem.mem_of_lookup (show cs.lookup x = some c from e)) with z | ⟨z, _⟩
        · exact f4 x c z
        · have z2 : @LE.le Nat _ (C + 1) c := z
          show @Ne Nat c b
          omega
    · obtain ⟨f0, f1, f2', f3, f4, f5⟩ := f2 b hb
      rcases f3 with z | z
      · exact I2.ok.noex b o e z
      · exact absurd (Nat.lt_of_lt_of_le (Heap.lt_size e) (Nat.le_trans I2.ok.bsz z)) (Nat.lt_irrefl _)
    · obtain ⟨f0, f1, f2', _⟩ := f2 b hb
      rcases List.mem_cons.mp (I2.stkSub b hf) with z | z
      · exact f1 z
      · exact f2' z
  have hDn : H2 s2.heap.objs.size = none := I2.fresh
  have hCn : H2 C = none := I2.hok.fresh (show @LE.le Nat _ s2.heap.objs.size C by omega)
  have stkNe : ∀ b, b ≠ X.env.locals → b ∉ X.fs → b ∉ frs X.stack := fun b h1 h2 hb => by
    rcases List.mem_cons.mp (I2.stkSub b hb) with z | z
    · exact h1 z
    · exact h2 z
  have I4 : Inv (compCx X scope (own ++ cn) s2 H2 cs C fp) pins (capS own.length js σ) (upd H2 s2.heap.objs.size (.lst [])) { s2 with heap := h4 } := by
    refine ⟨hX, rfl, I2.bare, Un.laid old (Nat.le_refl _) hDn, ⟨fun _ => none, hNs, fun i x v e1 e2 e3 => ?_⟩, fun x c e => ?_, ?_, fun x c e => ?_, fun p hp => ?_, I2.hok.laid old (Nat.le_refl _) ⟨Nat.zero_le _, [], 0, .nil, hD4⟩, ?_⟩
    · -- a captured name
      have hi : own.length ≤ i := by
        rcases Nat.lt_or_ge i own.length with z | z
        · exfalso
          unfold capS at e2
          rw [List.getElem?_append_left (by simpa using z), List.getElem?_replicate, if_pos z] at e2
          cases e2
        · exact z
      have e1' : cn[i - own.length]? = some x := by
        have : (own ++ cn)[i]? = some x := e1
        rw [List.getElem?_append_right hi] at this
        exact this
      have e2' : (js.map fun j => (σ[j]?).join)[i - own.length]? = some (some v) := by
        unfold capS at e2
        rw [List.getElem?_append_right (by simpa using hi)] at e2
        simpa using e2
      rw [List.getElem?_map] at e2'
      cases hj : js[i - own.length]? with
      | none => rw [hj] at e2'; cases e2'
      | some j =>
        rw [hj] at e2'
        have e2'' : (σ[j]?).join = some v := by simpa using e2'
        have hσ : σ[j]? = some (some v) := by
          cases q : σ[j]? with
          | none => rw [q] at e2''; cases e2''
          | some z => rw [q] at e2''; simp at e2''; rw [e2'']
        have hNx : X.N[j]? = some x := by
          have := congrArg (fun l => l[i - own.length]?) k7
          simp only [List.getElem?_map, hj, e1', Option.map_some] at this
          exact Option.some.inj this
        have hfx : scope.names.lookup x = some .free := k5 x (List.mem_of_getElem? e1')
        have hK := hfreeK (x, .free) (PySem.mem_of_lookup hfx) rfl
        have hK' : X.env.kindOf x = some .cell ∨ X.env.kindOf x = some .free := hK
        obtain ⟨m, hn, hl⟩ := I2.loc
        have hvis : Vis X.env.scope x := by
          rcases hK' with z | z
          · exact .inr (.inl z)
          · exact .inr (.inr z)
        obtain ⟨u, r, l⟩ := hl j x v hNx hσ hvis
        refine ⟨u, r, .inr ?_⟩
        rcases l with ⟨l1, _⟩ | ⟨l1, c, l2, l3⟩
        · rcases hK' with z | z
          · rw [z] at l1; cases l1
          · rw [z] at l1; cases l1
        · have hrl : (compEnvC scope cs C X.env).kindOf x = some .cell ∨ (compEnvC scope cs C X.env).kindOf x = some .free := by
            show (relabel scope X.env).names.lookup x = _ ∨ (relabel scope X.env).names.lookup x = _
            unfold relabel
            dsimp only
            rw [relabel_lookup, hfx]
            simp only [Option.map_some]
            split
            · exact .inl rfl
            · exact .inr rfl
          refine ⟨hrl, c, ?_, l3.keeps fun b o e => old b o e⟩
          show cs.lookup x = some c
          obtain ⟨c', hc'⟩ := hX.has x hrl
          have hc2 : cs.lookup x = some c' := hc'
          rw [hc2]
          have hm := PySem.mem_of_lookup hc2
          have : X.env.cells.lookup x = some c' := by
            rcases csM _ hm with z | ⟨_, z, _⟩
            · exact z
            · have := mem_lookup_nodup k3 z
              have h2 : scope.names.lookup x = some .cell := this
              rw [hfx] at h2; cases h2
          rw [l2] at this
          exact this.symm
    · rcases csM _ (PySem.mem_of_lookup (show cs.lookup x = some c from e)) with z | ⟨_, _, z⟩
      · obtain ⟨v, q⟩ := I2.cell _ _ z
        exact ⟨v, q.keeps fun b o e => old b o e⟩
      · exact ⟨none, z⟩
    · show upd H2 s2.heap.objs.size (.lst []) C = none
      rw [upd_ne (show @Ne Nat C s2.heap.objs.size by omega)]; exact hCn
    · have hne : c ≠ s2.heap.objs.size ∧ H2 c = none := by
        rcases csM _ (PySem.mem_of_lookup (show cs.lookup x = some c from e)) with z | ⟨z, _, _⟩
        · exact ⟨Nat.ne_of_lt (cellLt _ _ z), I2.freeC _ _ z⟩
        · have z2 : @LE.le Nat _ (C + 1) c := z
          exact ⟨show @Ne Nat c s2.heap.objs.size by omega, I2.hok.fresh (show @LE.le Nat _ s2.heap.objs.size c by omega)⟩
      rw [upd_ne hne.1]; exact hne.2
    · obtain ⟨e, n, ne, nf, d⟩ := I2.pin p hp
      have hlt : @LT.lt Nat _ p.1 s2.heap.objs.size := Heap.lt_size e
      refine ⟨old _ _ e, ?_, ?_, stkNe _ ne nf, d⟩
      · rw [upd_ne (Nat.ne_of_lt hlt)]; exact n
      · show @Ne Nat p.1 C
        omega
    · show (capS own.length js σ).length = (own ++ cn).length
      unfold capS
      have hl := congrArg List.length k7
      simp only [List.length_map] at hl
      simp [hl]
  have stat : ∀ {H' : Hp}, (∀ b ∈ fp, H' b = none) → ∀ b ∈ fp, FpOk (compCx X scope (own ++ cn) s2 H2 cs C fp) pins H' b := fun hn b hb => by
    obtain ⟨f0, f1, f2', f3, f4, f5⟩ := f2 b hb
    exact ⟨hn b hb, (hX.exf b hb).1, stkNe b f1 f2', .inl hb, fun x c e => (hX.exf b hb).2 x c e, f5⟩
  have back : ∀ {σ' : St} {H' : Hp} {s' : Shared}, Inv (compCx X scope (own ++ cn) s2 H2 cs C fp) pins σ' H' s' → Inv X pins σ H' s' := fun {σ' H' s'} J' =>
    I2.call' (ch := fp) J'.os J'.base J'.hok J'.bare fun b hb => by
      obtain ⟨f0, f1, f2', f3, f4, f5⟩ := f2 b hb
      exact ⟨f3, f1, f4, f5⟩
  obtain ⟨W, ⟨m0, w0⟩, turn⟩ := hW
  have loop : codeAny (model X.prog X.w) X.A (.compLoop (.ListComp elt [⟨tg, iter, ifs, 0⟩] scope pos) 0 (.ref it) (.ref s2.heap.objs.size) (compEnvC scope cs C X.env)) (RR (.ref s2.heap.objs.size) C) { s2 with heap := h4 } := by
    refine codeAny_compLoop_own (fun n s' => ∃ i ys H', Inv (compCx X scope (own ++ cn) s2 H2 cs C fp) pins (capS own.length js σ) H' s' ∧ tn i s'.heap ∧ (∀ b ∈ fp, H' b = none) ∧ W i n ys H') ?_ m0
      ⟨0, [], _, I4, T.keep _ _ _ st2 fun b hb o e => old b o e, fun b hb => ?_, w0⟩
    · rintro n s3 ⟨i, ys, H3, I3, st3, fr3, w3⟩
      rcases turn i n ys H3 w3 with ⟨stop, q⟩ | ⟨go, N, hN, step⟩
      · refine thn (T.done (compCx X scope (own ++ cn) s2 H2 cs C fp) rfl rfl rfl hc i pins s3 _ H3 _ I3 (stat fr3) st3 stop) fun r s4 ⟨hr, I5⟩ => ?_
        subst hr
        obtain ⟨m, hn, _⟩ := I5.loc
        exact hRR C H3 s4 (back I5) (I2.fpOk (show @LE.le Nat _ s2.heap.objs.size C by omega) I5.free) ⟨m, hn⟩ q
      · refine thn (T.item (compCx X scope (own ++ cn) s2 H2 cs C fp) rfl rfl rfl hc i pins s3 _ H3 _ I3 (stat fr3) st3 go) fun r s4 ⟨u, hr, h4'⟩ => ?_
        subst hr
        refine thn h4' fun _ s5 ⟨x, H5, I5, r5, y5, st5, fr5⟩ => ?_
        have I5' := I5.pinned (stat fr5) (T.obj _ _ st5)
        refine thn (hg s2 H2 cs C fp _ s5 _ H5 x u _ I5' r5 (step x H5 y5)) fun _ s6 ⟨σ6, H6, I6, q6⟩ => ?_
        refine thn (ht s2 H2 cs C fp _ s6 σ6 H6 _ I6 q6) fun b s7 ⟨H7, I7, q7⟩ => ?_
        have again : ∀ {σ8 : St} {H8 : Hp} {s8 : Shared} {ys8 : List V}, Inv (compCx X scope (own ++ cn) s2 H2 cs C fp) (pins ++ pinsAt fp s5.heap) σ8 H8 s8 → (∀ (j : Nat) v, (capS own.length js σ)[j]? = some (some v) → σ8[j]? = some (some v)) → (∃ m', m' < n ∧ W (i + 1) m' ys8 H8) →
            ∃ m, m < n ∧ ∃ i ys H', Inv (compCx X scope (own ++ cn) s2 H2 cs C fp) pins (capS own.length js σ) H' s8 ∧ tn i s8.heap ∧ (∀ b ∈ fp, H' b = none) ∧ W i m ys H' := fun {σ8 H8 s8 ys8} I8 hw8 ⟨m', hm, w8⟩ => by
          refine ⟨m', hm, i + 1, ys8, H8, I8.unpinned.weak (by rw [I8.len, I4.len]) hw8, T.keep _ _ _ st5 fun b hb o e => (I8.pin (b, o) (List.mem_append_right _ (List.mem_append_right _ (mem_pinsAt hb e)))).1, fun b hb => ?_, w8⟩
          obtain ⟨o, e, d⟩ := T.obj _ _ st5 b hb
          exact (I8.pin (b, o) (List.mem_append_right _ (List.mem_append_right _ (mem_pinsAt hb e)))).2.1
        -- the captured slots outlive the turn: what they said ahead of it is said of the cells
        have capK : ∀ {σ8 : St} {H8 : Hp} {s8 : Shared}, Inv (compCx X scope (own ++ cn) s2 H2 cs C fp) (pins ++ pinsAt fp s5.heap) σ8 H8 s8 → Inv (compCx X scope (own ++ cn) s2 H2 cs C fp) (pins ++ pinsAt fp s5.heap) (capS own.length js σ) H8 s8 := fun {σ8 H8 s8} I8 => by
          have IX := back I8.unpinned
          refine ⟨I8.ok, I8.os, I8.bare, I8.base, ?_, I8.cell, I8.free, I8.freeC, I8.pin, I8.hok, I4.len⟩
          obtain ⟨m, hn, _⟩ := I8.loc
          refine ⟨m, hn, fun i x v e1 e2 e3 => ?_⟩
          obtain ⟨mx, hnx, hlx⟩ := IX.loc
          have hi : own.length ≤ i := by
            rcases Nat.lt_or_ge i own.length with z | z
            · exfalso
              unfold capS at e2
              rw [List.getElem?_append_left (by simpa using z), List.getElem?_replicate, if_pos z] at e2
              cases e2
            · exact z
          have e1' : cn[i - own.length]? = some x := by
            have : (own ++ cn)[i]? = some x := e1
            rw [List.getElem?_append_right hi] at this
            exact this
          have e2' : (js.map fun j => (σ[j]?).join)[i - own.length]? = some (some v) := by
            unfold capS at e2
            rw [List.getElem?_append_right (by simpa using hi)] at e2
            simpa using e2
          rw [List.getElem?_map] at e2'
          cases hj : js[i - own.length]? with
          | none => rw [hj] at e2'; cases e2'
          | some j =>
            rw [hj] at e2'
            have e2'' : (σ[j]?).join = some v := by simpa using e2'
            have hσ : σ[j]? = some (some v) := by
              cases q : σ[j]? with
              | none => rw [q] at e2''; cases e2''
              | some z => rw [q] at e2''; simp at e2''; rw [e2'']
            have hNx : X.N[j]? = some x := by
              have := congrArg (fun l => l[i - own.length]?) k7
              simp only [List.getElem?_map, hj, e1', Option.map_some] at this
              exact Option.some.inj this
            have hfx : scope.names.lookup x = some .free := k5 x (List.mem_of_getElem? e1')
            have hK' : X.env.kindOf x = some .cell ∨ X.env.kindOf x = some .free := hfreeK (x, .free) (PySem.mem_of_lookup hfx) rfl
            have hvis : Vis X.env.scope x := by
              rcases hK' with z | z
              · exact .inr (.inl z)
              · exact .inr (.inr z)
            obtain ⟨u, r, l⟩ := hlx j x v hNx hσ hvis
            refine ⟨u, r, .inr ?_⟩
            rcases l with ⟨l1, _⟩ | ⟨l1, c, l2, l3⟩
            · rcases hK' with z | z
              · rw [z] at l1; cases l1
              · rw [z] at l1; cases l1
            · have hrl : (compEnvC scope cs C X.env).kindOf x = some .cell ∨ (compEnvC scope cs C X.env).kindOf x = some .free := by
                show (relabel scope X.env).names.lookup x = _ ∨ (relabel scope X.env).names.lookup x = _
                unfold relabel
                dsimp only
                rw [relabel_lookup, hfx]
                simp only [Option.map_some]
                split
                · exact .inl rfl
                · exact .inr rfl
              refine ⟨hrl, c, ?_, l3⟩
              show cs.lookup x = some c
              obtain ⟨c', hc'⟩ := hX.has x hrl
              have hc2 : cs.lookup x = some c' := hc'
              rw [hc2]
              have hm := PySem.mem_of_lookup hc2
              have : X.env.cells.lookup x = some c' := by
                rcases csM _ hm with z | ⟨_, z, _⟩
                · exact z
                · have := mem_lookup_nodup k3 z
                  have h2 : scope.names.lookup x = some .cell := this
                  rw [hfx] at h2; cases h2
              rw [l2] at this
              exact this.symm
        cases b with
        | false =>
          rw [if_neg Bool.false_ne_true]
          rw [if_neg Bool.false_ne_true] at q7
          exact again (capK I7) (fun _ _ e => e) (hN _ _ q7)
        | true =>
          rw [if_pos rfl]
          rw [if_pos rfl] at q7
          refine thn (he s2 H2 cs C fp _ s7 σ6 H7 _ I7 q7) fun y s8 ⟨v, H8, I8, r8, hD8, hz8, q8⟩ => ?_
          refine thn (mt_append (X := compCx X scope (own ++ cn) s2 H2 cs C fp) _ s8 σ6 H8 (.ref s2.heap.objs.size) [v] (.ref s2.heap.objs.size) [y] (fun _ H9 => H9 = upd H8 s2.heap.objs.size (.lst (ys ++ [v]))) I8 rfl (.cons r8 .nil) ⟨_, ys, v, rfl, rfl, hD8, hz8, rfl⟩) fun _ s9 ⟨z, H9, I9, r9, e9⟩ => ?_
          subst e9
          exact again (capK I9) (fun _ _ e => e) (hN _ _ q8)
    · obtain ⟨f0, _⟩ := f2 b hb
      obtain ⟨o, ho, _⟩ := T.obj 0 _ st2 b hb
      rw [upd_ne (Nat.ne_of_lt (Heap.lt_size ho))]; exact f0
  exact codeAny_compStart_list loop (T.self _ 0 _ _ _ (T.keep _ _ _ st2 fun b hb o e => old b o e) loop)
theorem pe_comp {wi : TI} (own cn : List Str) (js : List Nat) (hi : PI X tg iter wi) (hg : ∀ s2 H2 cs C fp, PG (compCx X scope (own ++ cn) s2 H2 cs C fp) tg g) (ht : ∀ s2 H2 cs C fp, PIfs (compCx X scope (own ++ cn) s2 H2 cs C fp) ifs tt)
    (he : ∀ s2 H2 cs C fp, PE (compCx X scope (own ++ cn) s2 H2 cs C fp) elt te) (hc : X.calm = true := by rfl) (hok : compOk X.env.scope scope own cn X.N js = true := by kernel_rfl)
    (hs : ∀ x, foldedSetIterable iter X.env x = pure x := by intro _; rfl) : PE X (.ListComp elt [⟨tg, iter, ifs, 0⟩] scope pos) (tComp wi g tt te own.length js) := by
  intro pins s σ H Q I h
  have hok' := hok
  unfold compOk at hok'
  simp only [Bool.and_eq_true, decide_eq_true_eq, List.all_eq_true, Bool.or_eq_true, Bool.not_eq_true', decide_eq_false_iff_not] at hok'
  obtain ⟨⟨⟨⟨⟨⟨k1, k2⟩, k3⟩, k4⟩, k5⟩, k6⟩, k7⟩ := hok'
  have hfree : ∀ x ∈ scope.names, x.2 = .free → ∃ c, X.env.cells.lookup x.1 = some c := fun x hx hf => I.ok.has x.1 (by
    rcases k2 x hx with (z | z) | z
    · exact absurd hf z
    · exact .inl z
    · exact .inr z)
  rw [eval_ListComp]
  refine wpAny_comprehension_free (use := none) rfl hs (closureFor_closL hfree) k1 (fun x hx hl => ?_) (thn (hi pins s σ H _ I h) fun v s1 h1 => thn h1 fun itv s2 h2 => ?_)
  · have := mem_lookup_nodup k3 (show (x.1, x.2) ∈ scope.names from hx)
    rw [this, hl]
  · obtain ⟨it, fp, tn, J, H2, e, I2, T, st2, f2, q⟩ := h2
    subst e
    refine comp_block (RR := fun acc C => compPost (model X.prog X.w) X.A X.xe none (EP X pins σ Q) acc C) hok hc hg ht he I2 T st2 f2 (q _ I2.fresh) ?_
    intro C H' s' I' fC ⟨m, hn⟩ q'
    obtain ⟨f0, f1, f2', f3, f4, f5⟩ := fC
    refine ⟨m, hn, fun h' hs' => ⟨.ref s2.heap.objs.size, H', ?_, rfl, q'⟩⟩
    exact I'.turned (t' := s'.toks) (fun b o hb e => (hs'.2 b hb).trans e) f0 f1 f3 f4 f5
theorem ps_setComp {wi : TI} {i : Nat} {x : Str} {px spos : Pos} (own cn : List Str) (js : List Nat) (hN : X.N.Nodup) (hix : X.N[i]? = some x) (hx : X.env.scope.names.lookup x = some .local) (hi : PI X tg iter wi)
    (hg : ∀ s2 H2 cs C fp, PG (compCx X scope (own ++ cn) s2 H2 cs C fp) tg g) (ht : ∀ s2 H2 cs C fp, PIfs (compCx X scope (own ++ cn) s2 H2 cs C fp) ifs tt)
    (he : ∀ s2 H2 cs C fp, PE (compCx X scope (own ++ cn) s2 H2 cs C fp) elt te) (hc : X.calm = true := by rfl) (hok : compOk X.env.scope scope own cn X.N js = true := by kernel_rfl)
    (hsw : swapsWith (.ListComp elt [⟨tg, iter, ifs, 0⟩] scope pos) (some (.Name x px)) spos.line X.env = pure true := by rfl)
    (hs : ∀ x, foldedSetIterable iter X.env x = pure x := by intro _; rfl) : PS X (.Assign [.Name x px] (.ListComp elt [⟨tg, iter, ifs, 0⟩] scope pos) spos) (tAsg (tComp wi g tt te own.length js) (gName i)) := by
  intro pins s σ H D I h
  have hok' := hok
  unfold compOk at hok'
  simp only [Bool.and_eq_true, decide_eq_true_eq, List.all_eq_true, Bool.or_eq_true, Bool.not_eq_true', decide_eq_false_iff_not] at hok'
  obtain ⟨⟨⟨⟨⟨⟨k1, k2⟩, k3⟩, k4⟩, k5⟩, k6⟩, k7⟩ := hok'
  have hfree : ∀ x ∈ scope.names, x.2 = .free → ∃ c, X.env.cells.lookup x.1 = some c := fun x hx hf => I.ok.has x.1 (by
    rcases k2 x hx with (z | z) | z
    · exact absurd hf z
    · exact .inl z
    · exact .inr z)
  rw [exec_Assign_Name_used _ _ _ _ hsw]
  refine wpAny_bind (wpAny_standAt (wpAny_bind ?_))
  show wpAny _ X.A (do let _ ← comprehension (.ListComp elt [⟨tg, iter, ifs, 0⟩] scope pos) scope X.env _ (newList []) false (eval iter X.env) (some (assign (.Name x px) X.env))) _ _ s
  refine wpAny_bind (wpAny_mono (wpAny_comprehension_free (use := some (assign (.Name x px) X.env)) (Q := fun _ s' => SP X pins D .next s') rfl hs (closureFor_closL hfree) k1 (fun x hx hl => ?_)
    (thn (hi pins s σ H _ I h) fun v s1 h1 => thn h1 fun itv s2 h2 => ?_)) (fun _ s' hq => wpAny_pure (wpAny_pure hq)) fun _ _ e => e)
  · have := mem_lookup_nodup k3 (show (x.1, x.2) ∈ scope.names from hx)
    rw [this, hl]
  · obtain ⟨it, fp, tn, J, H2, e, I2, T, st2, f2, q⟩ := h2
    subst e
    refine comp_block (RR := fun acc C => compPost (model X.prog X.w) X.A X.xe (some (assign (.Name x px) X.env)) (fun _ s' => SP X pins D .next s') acc C) hok hc hg ht he I2 T st2 f2 (q _ I2.fresh) ?_
    intro C H' s' I' fC ⟨m, hn⟩ q'
    obtain ⟨f0, f1, f2', f3, f4, f5⟩ := fC
    show wpAny _ X.A (assign (.Name x px) X.env (.ref s2.heap.objs.size)) _ _ _
    refine wpAny_assign_Name (store_ok2 I' hN hix (.inl hx) (v := .ref s2.heap.objs.size) rfl (fun s3 I3 hch => ?_) (.inr hx))
    obtain ⟨a, hsb, ha⟩ := hch
    have hCa : C ≠ a := by
      rcases ha with z | z
      · rw [z]; exact f1
      · exact fun e => f4 x a z e.symm
    refine ⟨m, hn.sameBut hsb hCa, fun h' hs' => ?_⟩
    exact ⟨_, H', I3.turned (t' := s3.toks) (fun b o hb e => (hs'.2 b hb).trans e) f0 f1 f3 f4 f5, q'⟩
end
section
variable {g : TG} {tt : TT} {te : TE} {D : Addr} {σ' : St} {Q : List V → Hp → Prop} {H1 : Hp}
end
end L2
set_option Elab.async false
set_option linter.all false
set_option maxRecDepth 100000
set_option maxHeartbeats 4000000
namespace PySem
open AutoSeq1 (wpAny_loadPart')
section
variable {prog : Program} {w : World} {A : Around} {E : Value → Shared → Prop} {s : Shared}
theorem hue_nextOf_tuple_item {it l : Addr} {i : Nat} {items} {x : Value} {Q : Value → Shared → Prop} (hit : s.heap.IsTupleIter it l i)
    (hl : s.heap.IsTuple l items) (hx : items[i]? = some x)
    (hQ : ∀ h', h'.IsTupleIter it l (i + 1) → Heap.SameBut it s.heap h' → Q x { s with heap := h' }) :
    wpAny (model prog w) A (Builtin.SmallTypes.nextOf (.ref it)) Q E s := by
  obtain ⟨o, ho, hc, hd⟩ := id hit
  obtain ⟨ol, hol, _, nl, hdl⟩ := hl
  unfold Builtin.SmallTypes.nextOf
  refine wpAny_bind (wpAny_callSpecial?_slot (name := Str.ofString "__next__") hit.typeIs F.slot_tuple_iterator_next
    (wpAny_call_entry F.slot_tuple_iterator_next hit.typeIs F.entry_tuple_iterator_next ?_ (F.args_tuple_iterator_next_1 _)))
  show wpAny _ _ (field (.ref it) 0 >>= _) _ _ s
  refine wpAny_bind (wpAny_field ho hd (x := .ref l) rfl ?_)
  show wpAny _ _ (if (Value.ref l == Value.none) = true then _ else _) _ _ s
  rw [if_neg (show ¬ ((Value.ref l == Value.none) = true) from Bool.false_ne_true)]
  show wpAny _ _ (field (.ref it) 1 >>= _) _ _ s
  refine wpAny_bind (wpAny_field ho hd (x := .int i 0) rfl ?_)
  show wpAny _ _ (seqItems? (.ref l) >>= _) _ _ s
  refine wpAny_bind (wpAny_seqItems hol hdl ?_)
  simp only [Int.toNat_natCast, hx]
  refine wpAny_bind (wpAny_setField ho hd (by simp) (wpAny_pure ⟨x, rfl, wpAny_pure (hQ _ ?_ (Heap.SameBut.update ..))⟩))
  exact ⟨_, Heap.get?_update_self _ ho (Obj.isFreed_of_fields (Obj.data_mapFields hd _)), (Obj.cls_mapFields ..).trans hc, by
    rw [Obj.data_mapFields hd]; simp [rawInt]⟩
theorem hue_nextOf_tuple_end {it l : Addr} {i : Nat} {items} {Q : Value → Shared → Prop} (hh : A.handled = none)
    (hit : s.heap.IsTupleIter it l i) (hl : s.heap.IsTuple l items) (hx : items[i]? = none)
    (hE : ∀ h' e, Heap.ExtBut it s.heap h' → (∃ o, h'.get? e = some o ∧ o.cls = .type "StopIteration") → E (.ref e) { s with heap := h' }) :
    wpAny (model prog w) A (Builtin.SmallTypes.nextOf (.ref it)) Q E s := by
  obtain ⟨o, ho, hc, hd⟩ := id hit
  obtain ⟨ol, hol, _, nl, hdl⟩ := hl
  unfold Builtin.SmallTypes.nextOf
  refine wpAny_bind (wpAny_callSpecial?_slot (name := Str.ofString "__next__") hit.typeIs F.slot_tuple_iterator_next
    (wpAny_call_entry F.slot_tuple_iterator_next hit.typeIs F.entry_tuple_iterator_next ?_ (F.args_tuple_iterator_next_1 _)))
  show wpAny _ _ (field (.ref it) 0 >>= _) _ _ s
  refine wpAny_bind (wpAny_field ho hd (x := .ref l) rfl ?_)
  show wpAny _ _ (if (Value.ref l == Value.none) = true then _ else _) _ _ s
  rw [if_neg (show ¬ ((Value.ref l == Value.none) = true) from Bool.false_ne_true)]
  show wpAny _ _ (field (.ref it) 1 >>= _) _ _ s
  refine wpAny_bind (wpAny_field ho hd (x := .int i 0) rfl ?_)
  show wpAny _ _ (seqItems? (.ref l) >>= _) _ _ s
  refine wpAny_bind (wpAny_seqItems hol hdl ?_)
  simp only [Int.toNat_natCast, hx]
  refine wpAny_bind (wpAny_rule (wpAny_bind (wpAny_setField ho hd (by simp) ?_)))
  first
    | refine wpAny_bind (wpAny_letGo ?_)
    | skip
  show wpAny _ _ (newExc (.type "StopIteration") [] >>= _) _ _ _
  refine wpAny_bind ?_
  simp only [newExc, newTuple]
  refine wpAny_bind (wpAny_newObj_type ?_ (by size_fits))
  refine wpAny_bind (m := firstArgMember _ _) (wpAny_of_eq (a := Value.none) (by first | rfl | (simp only [firstArgMember]; rfl)) ?_)
  refine wpAny_newObj_type ?_ (by size_fits)
  simp only [raiseNew]
  refine wpAny_bind (wpAny_handled ?_)
  first | rw [show A.in1.handled = none from hh] | rw [hh]
  refine wpAny_bind (wpAny_pure (wpAny_throw ?_))
  exact hE _ _ (((Heap.SameBut.update ..).extBut.push _).push _) ⟨_, Heap.get?_push_size _ rfl, rfl⟩
end
theorem hue_draws_tuple {prog : Program} {w : World} {A : Around} (hh : A.handled = none) (it l : Addr) (hne : l ≠ it) (items : Array Value) :
    Draws prog w A it [it, l] items.size (fun i v => items[i]? = some v) (fun i h => h.IsTupleIter it l i ∧ h.IsTuple l items) where
  live := fun _ _ st => let ⟨o, ho, _⟩ := st.1; ⟨o, ho⟩
  frame := fun _ _ _ st hk => ⟨st.1.at fun o e => hk it (by simp) o e, let ⟨o, ho, r⟩ := st.2; ⟨o, hk l (by simp) o ho, r⟩⟩
  item := fun i s Q E hi st hQ => by
    refine hue_nextOf_tuple_item st.1 st.2 (x := items[i]) (by simp [hi]) fun h' hit' hs' => ?_
    exact hQ _ h' s.toks (by simp [hi]) ⟨hit', st.2.extBut hs'.extBut hne⟩ hs'
  done := fun s Q E st hE => hue_nextOf_tuple_end hh st.1 st.2 (by simp) hE
theorem hue_enumerate_newT (l : Addr) (items : Array Value) (n : Nat) (dct : Option Addr) (sl : Array (Option Value)) :
    Meets (Builtin.«enumerate.__new__» ⟨[.type "enumerate", .ref l], []⟩) (fun _ R s => s.heap.get? l = some { cls := .type "tuple", dict := dct, data := .seq items n, slots := sl } ∧
      R (.ok (.ret (.ref (s.heap.push { cls := .type "tuple_iterator", data := .fields #[.ref l, .int 0 0] }).objs.size)))
        { s with heap := (s.heap.push { cls := .type "tuple_iterator", data := .fields #[.ref l, .int 0 0] }).push { cls := .type "enumerate", data := .fields #[.none, .bool false, .ref s.heap.objs.size, rawInt 0, .none, .none] } }) :=
  .of_wp fun prog w A R s h => by
    obtain ⟨hp, g, d, tk, os⟩ := s; obtain ⟨hl, h⟩ := h
    have hsub := sub_enumerate
    have hL : Heap.IsTuple (Shared.heap ⟨hp, g, d, tk, os⟩) l items := ⟨_, hl, rfl, n, rfl⟩
    wp_walk using wpAny_loadPart' hl
    refine wpAny_stack_any fun st => wpAny_pure ?_
    split
    · rename_i c _ _ _ _ _
      cases (c == Value.type "enumerate")
      · wp_walk using wpAny_loadPart' hl, wpAny_pyIter_tuple hL
        exact ⟨_, rfl, h⟩
      · wp_walk using wpAny_loadPart' hl, wpAny_pyIter_tuple hL
        exact ⟨_, rfl, h⟩
    · wp_walk using wpAny_loadPart' hl, wpAny_pyIter_tuple hL
      exact ⟨_, rfl, h⟩
section
variable {prog : Program} {w : World} {A : Around} {E : Value → Shared → Prop} {s : Shared}
theorem hue_call_enumerate_tuple {l : Addr} {items : Array Value} {Q : Value → Shared → Prop} (hL : s.heap.IsTuple l items)
    (h : ∀ h', IsEnum h' (s.heap.objs.size + 1) s.heap.objs.size 0 .none → h'.IsTupleIter s.heap.objs.size l 0 → h'.objs.size = s.heap.objs.size + 2 →
      (∀ b o, s.heap.get? b = some o → h'.get? b = some o) → Q (.ref (s.heap.objs.size + 1)) { s with heap := h' }) :
    wpAny (model prog w) A (call (.type "enumerate") [.ref l]) Q E s := by
  obtain ⟨⟨c, dct, dt, sl⟩, hl, hc, n, hd⟩ := hL
  replace hc : c = .type "tuple" := hc
  replace hd : dt = .seq items n := hd
  subst hc hd
  refine callType_new F.called_enumerate (by decide) (F.typeCall_enumerate_1 _) (F.newCall_enumerate_1 _) (fun obj => F.args_object_init_2 obj _) F.entry_enumerate_new
    (hue_enumerate_newT l items n dct sl) ⟨hl, ?_⟩
  have hz : (s.heap.push { cls := .type "tuple_iterator", data := .fields #[.ref l, .int 0 0] }).objs.size = s.heap.objs.size + 1 := Heap.size_push ..
  show _ ∧ _
  rw [hz]
  have he : IsEnum ((s.heap.push { cls := .type "tuple_iterator", data := .fields #[.ref l, .int 0 0] }).push
      { cls := .type "enumerate", data := .fields #[.none, .bool false, .ref s.heap.objs.size, rawInt 0, .none, .none] }) (s.heap.objs.size + 1) s.heap.objs.size 0 .none := by
    have := Heap.get?_push_size (s.heap.push { cls := .type "tuple_iterator", data := .fields #[.ref l, .int 0 0] })
      (o := { cls := .type "enumerate", data := .fields #[.none, .bool false, .ref s.heap.objs.size, rawInt 0, .none, .none] }) rfl
    rw [hz] at this; exact this
  refine ⟨⟨_, he, rfl⟩, h _ he ⟨_, Heap.get?_push_of_some _ (Heap.get?_push_size _ rfl), rfl, rfl⟩ (by rw [Heap.size_push, hz]) fun b o x => Heap.get?_push_of_some _ (Heap.get?_push_of_some _ x)⟩
end
end PySem
namespace L2
open PySem PySem.Spec PyProof.Rows
section
variable {X : Cx} {pins : List (Addr × Obj)} {σ : St} {H : Hp} {s : Shared} {h' : Heap}
theorem Inv.turnedL {t' : Nat} {ch : List Addr} (I : Inv X pins σ H s) (k : ∀ b o, b ∉ ch → s.heap.get? b = some o → h'.get? b = some o) (hf : ∀ b ∈ ch, FpOk X pins H b) : Inv X pins σ H { s with heap := h', toks := t' } := by
  have nit : ∀ b u, H b = some u → b ∉ ch := fun b u e z => by rw [(hf b z).1] at e; cases e
  refine I.step (g' := s.gens) (d' := s.drawn) (ch := ch) (fun b hb => ?_) (fun b o _ _ hc e _ => k b o hc e) (fun b o _ _ hc e _ => ⟨o.slots, k b o hc e⟩) (fun _ _ _ _ n => n)
    (fun b o hc e => ⟨o, k b o hc e⟩) (fun _ _ e => e) (fun _ _ _ e => e) (fun b ps e => ⟨#[], by rw [e]; simp⟩) (fun m hm => ?_) (fun b u e => ?_) I.bare
  · obtain ⟨f0, f1, f2, f3, f4, f5⟩ := hf b hb
    exact ⟨f3, f1, f4, f5⟩
  · obtain ⟨o, es, ep, ho, r⟩ := hm
    exact ⟨o, es, ep, k _ o (fun z => (hf _ z).2.1 rfl) ho, r⟩
  · refine (I.hok b u e).stay (fun c v hc q => k c v ?_ q) (fun _ q => q) fun _ _ q => q
    rcases hc with z | z
    · rw [z]; exact nit b u e
    · exact nit c _ z
theorem Inv.turnLay {t' : Nat} {ch : List Addr} {o : HO} (I : Inv X pins σ H s) (k : ∀ b u, b ∉ ch → s.heap.get? b = some u → h'.get? b = some u) (hf : ∀ b ∈ ch, FpOk X pins H b)
    (new : ObjOk X.prog X.w (upd H s.heap.objs.size o) h' s.heap.objs.size o) : Inv X pins σ (upd H s.heap.objs.size o) { s with heap := h', toks := t' } := by
  have hT : H s.heap.objs.size = none := I.fresh
  have nit : ∀ b u, H b = some u → b ∉ ch := fun b u e z => by rw [(hf b z).1] at e; cases e
  have lt : ∀ b u, s.heap.get? b = some u → b ≠ s.heap.objs.size := fun b u e => Nat.ne_of_lt (Heap.lt_size e)
  refine I.step (g' := s.gens) (d' := s.drawn) (ch := ch) (fun b hb => ?_) (fun b o _ _ hc e _ => k b o hc e) (fun b o _ _ hc e _ => ⟨o.slots, k b o hc e⟩) (fun b u _ e n => by rw [upd_ne (lt b u e)]; exact n)
    (fun b o hc e => ⟨o, k b o hc e⟩) (fun b xs e => by rw [upd_ne (ne_of_none e hT)]; exact e) (fun b u xs e => by rw [upd_ne (ne_of_none e hT)]; exact e) (fun b ps e => ⟨#[], by rw [upd_ne (ne_of_none e hT), e]; simp⟩) (fun m hm => ?_) (fun b u e => ?_) I.bare
  · obtain ⟨f0, f1, f2, f3, f4, f5⟩ := hf b hb
    exact ⟨f3, f1, f4, f5⟩
  · obtain ⟨o, es, ep, ho, r⟩ := hm
    exact ⟨o, es, ep, k _ o (fun z => (hf _ z).2.1 rfl) ho, r⟩
  · by_cases hb : b = s.heap.objs.size
    · subst hb; rw [upd_same] at e; cases e; exact new
    · rw [upd_ne hb] at e
      refine (I.hok b u e).stay (fun c v hc q => k c v ?_ q) (fun c q => by rw [upd_ne (ne_of_none q hT)]; exact q) fun c xs q => by rw [upd_ne (ne_of_none q hT)]; exact q
      rcases hc with z | z
      · rw [z]; exact nit b u e
      · exact nit c _ z
end
noncomputable def IteL (K : PySem.W.Frag) (a : Addr) : It :=
  ⟨fun i H => ∃ xs x, SqL K H a xs ∧ xs[i]? = some x, fun i H x H' => ∃ p v, H p = none ∧ x = .ref p ∧ (∀ xs, SqL K H a xs → xs[i]? = some v) ∧ H' = upd H p (.tup [.int i, v]), fun i H => ∃ xs, SqL K H a xs ∧ xs.length = i⟩
noncomputable def IteT (K : PySem.W.Frag) (a : Addr) : It :=
  ⟨fun i H => ∃ xs x, SqT K H a xs ∧ xs[i]? = some x, fun i H x H' => ∃ p v, H p = none ∧ x = .ref p ∧ (∀ xs, SqT K H a xs → xs[i]? = some v) ∧ H' = upd H p (.tup [.int i, v]), fun i H => ∃ xs, SqT K H a xs ∧ xs.length = i⟩
theorem two_le : 2 ≤ sizeLine := by decide
theorem turn_enumL {P : Program} {w : World} {K : PySem.W.Frag} {elts : List Expr} {kx : Nat} {tp : Pos} (a e it : Addr) (hei : e ≠ it) (hae : a ≠ e) (hai : a ≠ it) : Turn P w K (.Tuple elts kx tp) (IteL K a) [e, it] e (fun i h => (∃ old, IsEnum h e it i old) ∧ h.IsListIter it a i) where
  mem := by simp
  obj := fun i h st b hb => by
    rcases List.mem_cons.mp hb with rfl | hb
    · obtain ⟨⟨old, z⟩, _⟩ := st
      exact ⟨_, z, fun v q => by cases q⟩
    · have e' : b = it := by simpa using hb
      subst e'
      obtain ⟨o, q, c, d⟩ := st.2
      exact ⟨o, q, fun v z => by rw [d] at z; cases z⟩
  keep := fun i h h' st k => ⟨let ⟨old, z⟩ := st.1; ⟨old, k e (by simp) _ z⟩, st.2.at fun o q => k it (by simp) o q⟩
  item := by
    intro X hP hw hK hc i pins s σ H E I hf st hg
    subst hP hw hK
    obtain ⟨xs, x, hq, hx⟩ := hg
    obtain ⟨its, rv, p, hz⟩ := I.list hq
    obtain ⟨u, hu, ru⟩ := rv.get hx
    obtain ⟨⟨old, he⟩, hli⟩ := st
    have hil : i < its.toArray.size := by
      have := (List.getElem?_eq_some_iff.mp hu).1
      simpa using this
    refine wpAny_pyNext_enum_itemD (Draws.list (prog := X.prog) (w := X.w) (A := X.A.in1) (show X.A.in1.handled = none from I.ok.hd hc) it a hai its.toArray) he ⟨hli, p.isList⟩ hil hei (by simp [hei, Ne.symm hae]) fun y h' tk hy ho hs' hT hsz hk => ?_
    have hyu : y = u := by
      have : its.toArray[i]? = some u := by simpa using hu
      rw [this] at hy; exact (Option.some.inj hy).symm
    subst hyu
    refine ⟨_, rfl, ?_⟩
    have I1 : Inv X pins σ (upd H s.heap.objs.size (.tup [.int i, x])) { s with heap := h', toks := tk + 1 } :=
      I.turnLay (ch := [e, it]) (fun b o hb q => hk b o (fun z => hb (by simp [z])) (fun z => hb (by simp [z])) q) hf ⟨two_le, [.int i tk, y], .cons ⟨tk, rfl⟩ (.cons ru .nil), ⟨_, hT, rfl, _, rfl⟩⟩
    refine wpAny_letOwnedTupleGo_enum ho fun h2 he2 hs2 => ?_
    have hfp1 : ∀ b ∈ [e, it], FpOk X pins (upd H s.heap.objs.size (.tup [.int i, x])) b := fun b hb => by
      obtain ⟨f0, f1⟩ := hf b hb
      have hbl : b ≠ s.heap.objs.size := by
        rcases List.mem_cons.mp hb with rfl | hb
        · exact Nat.ne_of_lt (Heap.lt_size he)
        · have e' : b = it := by simpa using hb
          subst e'
          obtain ⟨o, q, _⟩ := hli
          exact Nat.ne_of_lt (Heap.lt_size q)
      exact ⟨by rw [upd_ne hbl]; exact f0, f1⟩
    have I2 : Inv X pins σ (upd H s.heap.objs.size (.tup [.int i, x])) { s with heap := h2, toks := tk + 1 } :=
      Inv.turnedL (s := { s with heap := h', toks := tk + 1 }) (t' := tk + 1) (ch := [e, it]) I1 (fun b o hb q => (hs2.2 b (fun z => hb (by simp [z]))).trans q) hfp1
    refine ⟨.ref s.heap.objs.size, _, I2, rfl, ⟨_, x, I.fresh, rfl, fun ys hy => by rw [I.list_inj hy hq]; exact hx, rfl⟩, ⟨⟨y, by simpa using he2⟩, hs'.1.extBut hs2.extBut (Ne.symm hei)⟩, fun b hb => (hfp1 b hb).1⟩
  done := by
    intro X hP hw hK hc i pins s σ H E I hf st hg
    subst hP hw hK
    obtain ⟨xs, hq, hx⟩ := hg
    obtain ⟨its, rv, p, hz⟩ := I.list hq
    obtain ⟨⟨old, he⟩, hli⟩ := st
    have hl := rv.length
    have hn : its.toArray.size = i := by simp; omega
    refine wpAny_pyNext_enum_endD (Draws.list (prog := X.prog) (w := X.w) (A := X.A.in1) (show X.A.in1.handled = none from I.ok.hd hc) it a hai its.toArray) he (by rw [hn]; exact ⟨hli, p.isList⟩) fun h' eb => ⟨rfl, I.turnedL (t' := s.toks) (ch := [e, it]) (fun b o hb q => eb b o (fun z => hb (by simp [z])) q) hf⟩
  self := fun _ _ _ _ _ st h => let ⟨old, z⟩ := st.1; wpAny_pyIter_enum z h
theorem turn_enumT {P : Program} {w : World} {K : PySem.W.Frag} {elts : List Expr} {kx : Nat} {tp : Pos} (a e it : Addr) (hei : e ≠ it) (hae : a ≠ e) (hai : a ≠ it) : Turn P w K (.Tuple elts kx tp) (IteT K a) [e, it] e (fun i h => (∃ old, IsEnum h e it i old) ∧ h.IsTupleIter it a i) where
  mem := by simp
  obj := fun i h st b hb => by
    rcases List.mem_cons.mp hb with rfl | hb
    · obtain ⟨⟨old, z⟩, _⟩ := st
      exact ⟨_, z, fun v q => by cases q⟩
    · have e' : b = it := by simpa using hb
      subst e'
      obtain ⟨o, q, c, d⟩ := st.2
      exact ⟨o, q, fun v z => by rw [d] at z; cases z⟩
  keep := fun i h h' st k => ⟨let ⟨old, z⟩ := st.1; ⟨old, k e (by simp) _ z⟩, st.2.at fun o q => k it (by simp) o q⟩
  item := by
    intro X hP hw hK hc i pins s σ H E I hf st hg
    subst hP hw hK
    obtain ⟨xs, x, hq, hx⟩ := hg
    obtain ⟨its, rv, p, hz⟩ := I.tuple hq
    obtain ⟨u, hu, ru⟩ := rv.get hx
    obtain ⟨⟨old, he⟩, hli⟩ := st
    have hil : i < its.toArray.size := by
      have := (List.getElem?_eq_some_iff.mp hu).1
      simpa using this
    refine wpAny_pyNext_enum_itemD (hue_draws_tuple (prog := X.prog) (w := X.w) (A := X.A.in1) (show X.A.in1.handled = none from I.ok.hd hc) it a hai its.toArray) he ⟨hli, p⟩ hil hei (by simp [hei, Ne.symm hae]) fun y h' tk hy ho hs' hT hsz hk => ?_
    have hyu : y = u := by
      have : its.toArray[i]? = some u := by simpa using hu
      rw [this] at hy; exact (Option.some.inj hy).symm
    subst hyu
    refine ⟨_, rfl, ?_⟩
    have I1 : Inv X pins σ (upd H s.heap.objs.size (.tup [.int i, x])) { s with heap := h', toks := tk + 1 } :=
      I.turnLay (ch := [e, it]) (fun b o hb q => hk b o (fun z => hb (by simp [z])) (fun z => hb (by simp [z])) q) hf ⟨two_le, [.int i tk, y], .cons ⟨tk, rfl⟩ (.cons ru .nil), ⟨_, hT, rfl, _, rfl⟩⟩
    refine wpAny_letOwnedTupleGo_enum ho fun h2 he2 hs2 => ?_
    have hfp1 : ∀ b ∈ [e, it], FpOk X pins (upd H s.heap.objs.size (.tup [.int i, x])) b := fun b hb => by
      obtain ⟨f0, f1⟩ := hf b hb
      have hbl : b ≠ s.heap.objs.size := by
        rcases List.mem_cons.mp hb with rfl | hb
        · exact Nat.ne_of_lt (Heap.lt_size he)
        · have e' : b = it := by simpa using hb
          subst e'
          obtain ⟨o, q, _⟩ := hli
          exact Nat.ne_of_lt (Heap.lt_size q)
      exact ⟨by rw [upd_ne hbl]; exact f0, f1⟩
    have I2 : Inv X pins σ (upd H s.heap.objs.size (.tup [.int i, x])) { s with heap := h2, toks := tk + 1 } :=
      Inv.turnedL (s := { s with heap := h', toks := tk + 1 }) (t' := tk + 1) (ch := [e, it]) I1 (fun b o hb q => (hs2.2 b (fun z => hb (by simp [z]))).trans q) hfp1
    refine ⟨.ref s.heap.objs.size, _, I2, rfl, ⟨_, x, I.fresh, rfl, fun ys hy => by rw [I.tuple_inj hy hq]; exact hx, rfl⟩, ⟨⟨y, by simpa using he2⟩, hs'.1.extBut hs2.extBut (Ne.symm hei)⟩, fun b hb => (hfp1 b hb).1⟩
  done := by
    intro X hP hw hK hc i pins s σ H E I hf st hg
    subst hP hw hK
    obtain ⟨xs, hq, hx⟩ := hg
    obtain ⟨its, rv, p, hz⟩ := I.tuple hq
    obtain ⟨⟨old, he⟩, hli⟩ := st
    have hl := rv.length
    have hn : its.toArray.size = i := by simp; omega
    refine wpAny_pyNext_enum_endD (hue_draws_tuple (prog := X.prog) (w := X.w) (A := X.A.in1) (show X.A.in1.handled = none from I.ok.hd hc) it a hai its.toArray) he (by rw [hn]; exact ⟨hli, p⟩) fun h' eb => ⟨rfl, I.turnedL (t' := s.toks) (ch := [e, it]) (fun b o hb q => eb b o (fun z => hb (by simp [z])) q) hf⟩
  self := fun _ _ _ _ _ st h => let ⟨old, z⟩ := st.1; wpAny_pyIter_enum z h
section
variable {X : Cx}
noncomputable def iEnum (K : PySem.W.Frag) (ta : TA) : TI := fun σ H R => ta σ H fun vs H1 => ∃ a, vs = [.ref a] ∧ (((∃ xs, SqL K H1 a xs) ∧ R (IteL K a) H1) ∨ ((∃ xs, SqT K H1 a xs) ∧ R (IteT K a) H1))
theorem boot_enumerate : bootBuiltins "enumerate" = some (.type "enumerate") := by decide +kernel
theorem pi_enum {a : Expr} {ta : TA} {p pos : Pos} {elts : List Expr} {kx : Nat} {tp : Pos} (hg : Gl X "enumerate") (hm : X.mg "enumerate" = none) (ha : PA X [a] ta) (hs : starEach [a] X.env = [(false, eval a X.env)] := by rfl) :
    PI X (.Tuple elts kx tp) (.Call (.Name "enumerate" p) [a] [] pos) (iEnum X.K ta) := by
  intro pins s σ H R I h
  refine Call_ (ld_blt I hg hm boot_enumerate (PyProof.Rows.callWith_type1 (thn (ha pos pins s σ H _ I h) fun us s1 ⟨vs, H1, I1, r1, q1⟩ => ?_) hs rfl))
  obtain ⟨l, e, q1⟩ := q1
  subst e
  cases r1 with
  | cons r rr =>
    cases rr
    cases r
    rcases q1 with ⟨⟨xs, hq⟩, q⟩ | ⟨⟨xs, hq⟩, q⟩
    · obtain ⟨its, rv, pl, hz⟩ := I1.list hq
      have hlt : @LT.lt Nat _ l s1.heap.objs.size := by obtain ⟨o, n, e, _⟩ := pl; exact Heap.lt_size e
      refine call_enumerate_list pl.isList fun h' he hli hsz hk => ?_
      refine wpAny_pyIter_enum he ?_
      have I2 : Inv X pins σ H1 { s1 with heap := h' } := I1.kept (t' := s1.toks) hk
      refine ⟨s1.heap.objs.size + 1, [s1.heap.objs.size + 1, s1.heap.objs.size], _, _, H1, rfl, I2, turn_enumL l _ s1.heap.objs.size (show @Ne Nat _ _ by omega) (show @Ne Nat _ _ by omega) (show @Ne Nat _ _ by omega), ⟨⟨_, he⟩, hli⟩, fun b hb => ?_, q⟩
      have hb2 : @LE.le Nat _ s1.heap.objs.size b := by
        rcases List.mem_cons.mp hb with rfl | hb
        · exact Nat.le_succ _
        · have e : b = s1.heap.objs.size := by simpa using hb
          rw [e]; exact Nat.le_refl _
      exact I1.fpOk hb2 (I1.hok.fresh hb2)
    · obtain ⟨its, rv, pl, hz⟩ := I1.tuple hq
      have hlt : @LT.lt Nat _ l s1.heap.objs.size := by obtain ⟨o, e, _⟩ := pl; exact Heap.lt_size e
      refine hue_call_enumerate_tuple (show s1.heap.IsTuple l its.toArray from pl) fun h' he hli hsz hk => ?_
      refine wpAny_pyIter_enum he ?_
      have I2 : Inv X pins σ H1 { s1 with heap := h' } := I1.kept (t' := s1.toks) hk
      refine ⟨s1.heap.objs.size + 1, [s1.heap.objs.size + 1, s1.heap.objs.size], _, _, H1, rfl, I2, turn_enumT l _ s1.heap.objs.size (show @Ne Nat _ _ by omega) (show @Ne Nat _ _ by omega) (show @Ne Nat _ _ by omega), ⟨⟨_, he⟩, hli⟩, fun b hb => ?_, q⟩
      have hb2 : @LE.le Nat _ s1.heap.objs.size b := by
        rcases List.mem_cons.mp hb with rfl | hb
        · exact Nat.le_succ _
        · have e : b = s1.heap.objs.size := by simpa using hb
          rw [e]; exact Nat.le_refl _
      exact I1.fpOk hb2 (I1.hok.fresh hb2)
end
section
variable {X : Cx}
end
theorem insert_eq (its : List Value) (k : Nat) (y : Value) : (its.toArray.extract 0 k).push y ++ its.toArray.extract k = (its.take k ++ y :: its.drop k).toArray := by
  apply Array.toList_inj.mp
  simp
  first
    | done
    | exact List.take_of_length_le (by simp)
section
variable {X : Cx}
noncomputable def rInsert : V → List V → Hp → VK → Prop := fun x vs H Q => ∃ l xs i y, x = .ref l ∧ vs = [.int i, y] ∧ H l = some (.lst xs) ∧ 0 ≤ i ∧ i ≤ xs.length ∧ xs.length < sizeLine ∧ Q .non (upd H l (.lst (xs.take i.toNat ++ y :: xs.drop i.toNat)))
theorem mt_insert : MtM X "list.insert" rInsert := by
  intro pins s σ H x vs v us Q I rx rv h
  obtain ⟨l, xs, i, y, rfl, rfl, hH, h0, h1, hz, q⟩ := h
  cases rx
  obtain ⟨u1, u2, rfl, ⟨t, rfl⟩, ru⟩ := Vals.two rv
  obtain ⟨z, its, n, r, hl, e⟩ := I.lstM hH
  have hn := line63
  refine call_meets F.slot_list_insert ⟨_, e, rfl⟩ F.entry_list_insert (F.args_list_insert_3 _ _ _) (AutoSeq1.list_insert_list_int_val_1 l its.toArray n i t u2 (by rw [fitsIndex_both (by omega) (by omega)]; exact Bool.false_ne_true) (by rw [List.size_toArray]; omega)) ⟨e, ?_⟩
  refine ⟨.non, _, I.lset (its' := its.take i.toNat ++ u2 :: its.drop i.toNat) hH e ?_ (Vals.append (r.take _) (.cons ru (r.drop _))) ?_, rfl, q⟩
  · have hk : (if i < 0 then (i + (its.toArray.size : Int)).toNat else min i.toNat its.toArray.size) = i.toNat := by
      rw [if_neg (by omega), List.size_toArray]; omega
    show (let k := if i < 0 then (i + (its.toArray.size : Int)).toNat else min i.toNat its.toArray.size; (its.toArray.extract 0 k).push u2 ++ its.toArray.extract k) = _
    rw [hk]
    exact insert_eq its i.toNat u2
  · rw [List.length_append, List.length_take, List.length_cons, List.length_drop]
    omega
noncomputable def eqVs (xs ys : List V) : Bool := xs.length == ys.length && (xs.zip ys).all fun p => eqV p.1 p.2
noncomputable def rEqL (K : PySem.W.Frag) (neg : Bool) : R2 := fun x y H Q => ∃ a b xs ys, x = .ref a ∧ y = .ref b ∧ SqL K H a xs ∧ SqL K H b ys ∧ ((xs.all flatV = true ∧ ys.all flatV = true) ∨ xs = [] ∨ ys = []) ∧ Q (.bl (if neg then !eqVs xs ys else eqVs xs ys)) H
theorem eqVs_range {xs ys : List V} (hl : xs.length = ys.length) : (List.range xs.length).all (fun j => eqV (xs.getD j .non) (ys.getD j .non)) = eqVs xs ys := by
  have e1 : eqVs xs ys = (xs.zip ys).all fun p => eqV p.1 p.2 := by unfold eqVs; simp [hl]
  rw [e1, Bool.eq_iff_iff, List.all_eq_true, List.all_eq_true]
  constructor
  · intro h p hp
    obtain ⟨j, hj, e⟩ := List.mem_iff_getElem.mp hp
    have hj1 : j < xs.length := by simp at hj; omega
    have hj2 : j < ys.length := by omega
    have := h j (List.mem_range.mpr hj1)
    rw [← e]
    simpa [List.getD, hj1, hj2] using this
  · intro h j hj
    have hj1 : j < xs.length := List.mem_range.mp hj
    have hj2 : j < ys.length := by omega
    have := h (xs[j], ys[j]) (List.mem_iff_getElem.mpr ⟨j, by simp; omega, by simp⟩)
    simpa [List.getD, hj1, hj2] using this
theorem eqAt_lists {xs ys : List V} {us ws : List Value} {A : Around} {s : Shared} (r1 : Vals xs us) (r2 : Vals ys ws) (f : (xs.all flatV = true ∧ ys.all flatV = true) ∨ xs = [] ∨ ys = []) :
    ∀ j (h1 : j < us.toArray.size) (h2 : j < ws.toArray.size), SeqAt.EqAt A s us.toArray[j] ws.toArray[j] (eqV (xs.getD j .non) (ys.getD j .non)) := by
  intro j h1 h2
  have l1 := r1.length
  have l2 := r2.length
  simp only [List.size_toArray] at h1 h2
  have hj1 : j < xs.length := by omega
  have hj2 : j < ys.length := by omega
  obtain ⟨f1, f2⟩ : xs.all flatV = true ∧ ys.all flatV = true := by
    rcases f with f | f | f
    · exact f
    · subst f; simp at hj1
    · subst f; simp at hj2
  obtain ⟨u, eu, ru⟩ := r1.get (i := j) (x := xs[j]) (by simp [hj1])
  obtain ⟨w', ew, rw'⟩ := r2.get (i := j) (x := ys[j]) (by simp [hj2])
  have e1 : us.toArray[j] = u := by
    have := List.getElem?_eq_some_iff.mp eu
    obtain ⟨_, q⟩ := this
    simpa using q
  have e2 : ws.toArray[j] = w' := by
    obtain ⟨_, q⟩ := List.getElem?_eq_some_iff.mp ew
    simpa using q
  rw [e1, e2]
  have g1 : xs.getD j .non = xs[j] := by simp [List.getD, hj1]
  have g2 : ys.getD j .non = ys[j] := by simp [List.getD, hj2]
  rw [g1, g2]
  exact eqAt_V ru rw' (List.all_eq_true.mp f1 _ (List.getElem_mem hj1)) (List.all_eq_true.mp f2 _ (List.getElem_mem hj2))
theorem op_eqL (hu : X.A.units < cLine) : OpR X (compareOp .Eq) (rEqL X.K false) := by
  intro pins s σ H x y v u Q I rx ry h
  obtain ⟨a, b, xs, ys, rfl, rfl, h1, h2, f, q⟩ := h
  cases rx
  cases ry
  obtain ⟨its1, r1, p1, _⟩ := I.list h1
  obtain ⟨its2, r2, p2, _⟩ := I.list h2
  have l1 := r1.length
  have l2 := r2.length
  by_cases hl : xs.length = ys.length
  · refine SeqAt.eq_listAt p1.isList p2.isList (by simp; omega) hu (eqAt_lists r1 r2 f) ⟨.bl _, H, I, rfl, ?_⟩
    rw [List.size_toArray, ← l1, eqVs_range hl]
    exact q
  · refine SeqAt.eq_list_lengthsAt p1.isList p2.isList (by simp; omega) hu ⟨.bl false, H, I, rfl, ?_⟩
    have e : eqVs xs ys = false := by unfold eqVs; simp [hl]
    rw [show (if false = true then !eqVs xs ys else eqVs xs ys) = eqVs xs ys from rfl, e] at q
    exact q
theorem op_neL (hu : X.A.units < cLine) : OpR X (compareOp .NotEq) (rEqL X.K true) := by
  intro pins s σ H x y v u Q I rx ry h
  obtain ⟨a, b, xs, ys, rfl, rfl, h1, h2, f, q⟩ := h
  cases rx
  cases ry
  obtain ⟨its1, r1, p1, _⟩ := I.list h1
  obtain ⟨its2, r2, p2, _⟩ := I.list h2
  have l1 := r1.length
  have l2 := r2.length
  by_cases hl : xs.length = ys.length
  · refine (SeqAt.RcNeAt.lists p1.isList p2.isList (by simp; omega) hu (eqAt_lists r1 r2 f)) _ _ _ _ ?_
    refine ⟨.bl _, H, I, rfl, ?_⟩
    rw [List.size_toArray, ← l1, eqVs_range hl]
    exact q
  · refine (SeqAt.RcNeAt.lists_lengths p1.isList p2.isList (by simp; omega) hu) _ _ _ _ ?_
    refine ⟨.bl true, H, I, rfl, ?_⟩
    have e : eqVs xs ys = false := by unfold eqVs; simp [hl]
    rw [show (if true = true then !eqVs xs ys else eqVs xs ys) = !eqVs xs ys from rfl, e] at q
    exact q
theorem call_isi1 : CallR X (.builtin "isinstance") (fun xs H Q => ∃ x T t b, xs = [x, .ty T] ∧ TyOf X.K H x t ∧ PySem.W.kitOne X.K t (.type T) = some b ∧ Q (.bl b) H) := by
  intro pins s σ H xs us Q I r h
  obtain ⟨x, T, t, b, rfl, ty, e, q⟩ := h
  obtain ⟨u1, u2, rfl, r1, r2⟩ := Vals.two r
  cases r2
  exact isinst_ok I r1 ty e fun tk => ⟨.bl b, H, I.tok tk, rfl, q⟩
theorem isinstT_ok {pins : List (Addr × Obj)} {σ : St} {H : Hp} {s : Shared} {A : Around} {E : Value → Shared → Prop} {Q : Value → Shared → Prop} {b : Bool} {x : V} {u t : Value} {tp : Addr} {dd : Option Addr} {its : List Value} {n : Nat} {sl : Array (Option Value)} (I : Inv X pins σ H s) (rx : RelV x u) (ty : TyOf X.K H x t)
    (htp : s.heap.get? tp = some ⟨.type "tuple", dd, .seq its.toArray n, sl⟩) (e : PySem.W.kitAny X.K t its = some b) (h : ∀ tk, Q (.bool b) { s with toks := tk }) :
    wpAny (model X.prog X.w) A (call (.builtin "isinstance") [u, .ref tp]) Q E s := by
  cases ty with
  | non => cases (show u = Value.none from rx); exact PySem.W.kia_tup PySem.W.kitx_none I.kIn True.intro htp e (fun z => nomatch z) h
  | bl y => cases (show u = Value.bool y from rx); exact PySem.W.kia_tup PySem.W.kitx_bool I.kIn True.intro htp e (fun z => nomatch z) h
  | int i => obtain ⟨t, q⟩ := (show ∃ t, u = Value.int i t from rx); cases q; exact PySem.W.kia_tup PySem.W.kitx_int I.kIn True.intro htp e (fun z => nomatch z) h
  | str y => obtain ⟨t, q⟩ := (show ∃ t, u = Value.str y t from rx); cases q; exact PySem.W.kia_tup PySem.W.kitx_str I.kIn True.intro htp e (fun z => nomatch z) h
  | flt y => obtain ⟨t, q⟩ := (show ∃ t, u = Value.float y t from rx); cases q; exact PySem.W.kia_tup PySem.W.kitx_float I.kIn True.intro htp e (fun z => nomatch z) h
  | @lst a xs ea =>
    cases (show u = Value.ref a from rx)
    obtain ⟨_, _, n, _, h1⟩ := (show ObjOk X.prog X.w H s.heap a (.lst xs) from I.hok a _ ea)
    exact PySem.W.kia_tup PySem.W.kitx_list I.kIn ⟨_, h1, rfl⟩ htp e (fun z => nomatch z) h
  | @frz a ob xs ea =>
    cases (show u = Value.ref a from rx)
    obtain ⟨_, _, _, n, _, h1⟩ := (show ObjOk X.prog X.w H s.heap a (.frz ob (.lst xs)) from I.hok a _ ea)
    exact PySem.W.kia_tup PySem.W.kitx_list I.kIn ⟨_, h1, rfl⟩ htp e (fun z => nomatch z) h
  | @tup a xs ea =>
    cases (show u = Value.ref a from rx)
    obtain ⟨_, _, _, p⟩ := (show ObjOk X.prog X.w H s.heap a (.tup xs) from I.hok a _ ea)
    obtain ⟨o, h1, h2, _⟩ := p
    exact PySem.W.kia_tup PySem.W.kitx_tuple I.kIn ⟨o, h1, h2⟩ htp e (fun z => nomatch z) h
  | @dK a kvs ea =>
    cases (show u = Value.ref a from rx)
    obtain ⟨_, _, vs, _, p⟩ := (show ObjOk X.prog X.w H s.heap a (.dK kvs) from I.hok a _ ea)
    obtain ⟨o, es, ep, h1, h2, _⟩ := p
    exact PySem.W.kia_tup PySem.W.kitx_dict I.kIn ⟨o, h1, h2.1⟩ htp e (fun z => nomatch z) h
  | @dT a kvs ea =>
    cases (show u = Value.ref a from rx)
    obtain ⟨_, _, xs, _, o, es, ep, h1, h2, _⟩ := (show ObjOk X.prog X.w H s.heap a (.dT kvs) from I.hok a _ ea)
    exact PySem.W.kia_tup PySem.W.kitx_dict I.kIn ⟨o, h1, h2.1⟩ htp e (fun z => nomatch z) h
  | @ins a C dx fs ea cl ha hn htk hm =>
    cases (show u = Value.ref a from rx)
    obtain ⟨mA, O, _⟩ := ins_get I.hok ea
    obtain ⟨od, J, _⟩ := O.look
    exact PySem.W.kia_tup (PySem.W.kitx_own (cl.get _) cl.hd ha hn htk hm) I.kIn J htp e (fun z => nomatch z) h
theorem vals_ty : ∀ (Ts : List String) {us : List Value}, Vals (Ts.map V.ty) us → us = Ts.map Value.type
  | [], _, .nil => rfl
  | T :: r, _, .cons h t => by cases h; rw [vals_ty r t]; rfl
theorem call_isiT : CallR X (.builtin "isinstance") (fun xs H Q => ∃ (x : V) (p : Addr) (Ts : List String) (t : Value) (b : Bool), xs = [x, .ref p] ∧ H p = some (.tup (Ts.map V.ty)) ∧ TyOf X.K H x t ∧ PySem.W.kitAny X.K t (Ts.map Value.type) = some b ∧ Q (.bl b) H) := by
  intro pins s σ H xs us Q I r h
  obtain ⟨x, p, Ts, t, b, rfl, hp, ty, e, q⟩ := h
  obtain ⟨u1, u2, rfl, r1, r2⟩ := Vals.two r
  cases r2
  obtain ⟨_, its, rv, ⟨⟨c, dd, dt, sl⟩, h1, h2, n, h3⟩⟩ := (show ObjOk X.prog X.w H s.heap p (.tup (Ts.map V.ty)) from I.hok p _ hp)
  have ei := vals_ty Ts rv
  subst ei
  replace h2 : c = .type "tuple" := h2
  replace h3 : dt = .seq (Ts.map Value.type).toArray n := h3
  subst h2 h3
  exact isinstT_ok I r1 ty h1 e fun tk => ⟨.bl b, H, I.tok tk, rfl, q⟩
theorem call_allB (hc : X.calm = true) : CallR X (.builtin "all") (fun xs H Q => ∃ (a : Addr) (bs : List Bool), xs = [.ref a] ∧ SqL X.K H a (bs.map V.bl) ∧ Q (.bl (bs.all id)) H) := by
  intro pins s σ H xs us Q I r h
  obtain ⟨a, bs, rfl, hq, q⟩ := h
  obtain ⟨u, rfl, ru⟩ := vals1 r
  cases ru
  obtain ⟨its, rv, pl, hz⟩ := I.list hq
  have hl := rv.length
  rw [List.length_map] at hl
  refine call_all_walk (wpAny_pyIter_list pl.isList ?_)
  have hlt : a < s.heap.objs.size := by obtain ⟨o, n, e, _⟩ := pl; exact Heap.lt_size e
  refine ⟨s.heap.objs.size, _, _, _, _, _, fun i => bs.getD i false, rfl, Walks.list (by exact I.ok.hd hc) s.heap.objs.size a (Nat.ne_of_lt hlt) its.toArray, ⟨⟨_, Heap.get?_push_size _ rfl, rfl, rfl⟩, pl.isList.push _⟩, ?_, fun h' tk hk => ?_⟩
  · intro i v s' Q' E' hv hQ'
    have hv' : its[i]? = some v := by simpa using hv
    have hi : i < its.length := (List.getElem?_eq_some_iff.mp hv').1
    have hb : (bs.map V.bl)[i]? = some (.bl (bs[i]'(by omega))) := by simp
    obtain ⟨u', eu, ru'⟩ := rv.get hb
    rw [hv'] at eu
    cases eu
    cases ru'
    have hg : bs.getD i false = bs[i]'(by omega) := by simp [List.getD, show i < bs.length by omega]
    have hQ2 : Q' (bs.getD i false) s' := hQ'
    rw [hg] at hQ2
    exact wpAny_truthy_bool hQ2
  · have I1 : Inv X pins σ H { s with heap := h', toks := tk } := I.kept fun b o e => hk b o (by simp; exact Nat.ne_of_lt (Heap.lt_size e)) (Heap.get?_push_of_some _ e)
    refine ⟨.bl _, H, I1, rfl, ?_⟩
    have e : (List.range its.toArray.size).all (fun i => bs.getD i false) = bs.all id := by
      rw [List.size_toArray, ← hl, Bool.eq_iff_iff, List.all_eq_true, List.all_eq_true]
      constructor
      · intro h b hb
        obtain ⟨j, hj, e⟩ := List.mem_iff_getElem.mp hb
        have := h j (List.mem_range.mpr hj)
        simpa [List.getD, hj, e] using this
      · intro h j hj
        have hj1 : j < bs.length := List.mem_range.mp hj
        have := h bs[j] (List.getElem_mem hj1)
        simpa [List.getD, hj1] using this
    rw [e]
    exact q
theorem call_rng1 : CallR X (.type "range") (fun xs H Q => ∃ b, xs = [.int b] ∧ ∀ p, H p = none → Q (.ref p) (upd H p (.rng 0 b))) := by
  intro pins s σ H xs us Q I r h
  obtain ⟨b, rfl, q⟩ := h
  obtain ⟨u1, rfl, ⟨t, rfl⟩⟩ := vals1 r
  refine call_range_1 ⟨.ref s.heap.objs.size, _, I.laid (o := .rng 0 b) (fun b o e => Heap.get?_push_of_some _ e) (Nat.le_refl _) ⟨_, _, _, Heap.get?_push_size _ rfl⟩, rfl, q _ I.fresh⟩
noncomputable def rngV (lo : Int) (n : Nat) : List V := (List.range n).map fun (i : Nat) => V.int (lo + (i : Int))
theorem rngV_length (lo : Int) (n : Nat) : (rngV lo n).length = n := by unfold rngV; simp
theorem call_listRng (hc : X.calm = true) : CallR X (.type "list") (fun xs H Q => ∃ p a b, xs = [.ref p] ∧ H p = some (.rng a b) ∧ -(2 ^ 62) ≤ a ∧ a < 2 ^ 62 ∧ -(2 ^ 62) ≤ b ∧ b < 2 ^ 62 ∧ (b - a).toNat ≤ 100000 ∧ ∀ l, H l = none → Q (.ref l) (upd H l (.lst (rngV a (b - a).toNat)))) := by
  intro pins s σ H xs us Q I r h
  obtain ⟨p, a, b, rfl, hp, h1, h2, h3, h4, h5, q⟩ := h
  obtain ⟨u, rfl, ru⟩ := vals1 r
  cases ru
  obtain ⟨t, u', v, ho⟩ := (show ObjOk X.prog X.w H s.heap p (.rng a b) from I.hok p _ hp)
  have hn : Builtin.Range.rangeSize a b 1 = (((b - a).toNat : Nat) : Int) := by rw [rangeSize_one]; split <;> omega
  refine call_list_range (I.ok.hd hc) (show IsRange s.heap p a b 1 t u' v from ho) (small_one h1 h2 h3 h4) hn (by omega) fun h' tk acc c' kp e hi => ?_
  have hz : (b - a).toNat ≤ sizeLine := Nat.le_trans h5 (by decide)
  refine ⟨.ref s.heap.objs.size, _, I.laid kp (Nat.le_refl _) (show ObjOk X.prog X.w _ h' _ (.lst (rngV a (b - a).toNat)) from ⟨by rw [rngV_length]; exact hz, acc.toList, c', ?_, by simpa using e⟩), rfl, q _ I.fresh⟩
  obtain ⟨hs, hv⟩ := hi
  have key : ∀ (n : Nat) (l : List Value) (lo : Int), l.length = n → (∀ (j : Nat) (v : Value), l[j]? = some v → ∃ t, v = Value.int (lo + (j : Int)) t) → Vals ((List.range n).map fun (i : Nat) => V.int (lo + (i : Int))) l := by
    intro n
    induction n with
    | zero => intro l lo hl _; cases l with | nil => exact .nil | cons _ _ => simp at hl
    | succ n ih =>
      intro l lo hl hv
      cases l with
      | nil => simp at hl
      | cons x r =>
        rw [List.range_succ_eq_map, List.map_cons, List.map_map]
        refine .cons ?_ ?_
        · obtain ⟨t, e⟩ := hv 0 x (by simp)
          exact ⟨t, e⟩
        · have := ih r (lo + 1) (by simpa using hl) fun j v hj => by
            obtain ⟨t, e⟩ := hv (j + 1) v (by simpa using hj)
            refine ⟨t, ?_⟩
            rw [e]
            congr 1
            omega
          have e2 : ((fun (i : Nat) => V.int (lo + (i : Int))) ∘ Nat.succ) = fun (i : Nat) => V.int (lo + 1 + (i : Int)) := by
            funext i
            show V.int (lo + ((i + 1 : Nat) : Int)) = V.int (lo + 1 + (i : Int))
            congr 1
            omega
          rw [e2]
          exact this
  refine key _ _ a (by simpa using hs) fun j v hj => ?_
  obtain ⟨t, e⟩ := hv j v (by simpa using hj)
  exact ⟨t, by rw [e]; congr 1; omega⟩
end
end L2
set_option Elab.async false
set_option linter.all false
set_option maxRecDepth 100000
set_option maxHeartbeats 1000000
namespace Rf
open PySem L2
inductive TyN where
  | int | bool | str | list | tuple | none
  deriving DecidableEq
noncomputable def TyN.nm : TyN → String
  | .int => "int" | .bool => "bool" | .str => "str" | .list => "list" | .tuple => "tuple" | .none => "NoneType"
inductive SV where
  | non | bl (b : Bool) | int (i : Int) | str (x : Str) | tup (xs : List SV) | loc (k : Nat) | ro (xs : List SV) | ty (t : TyN)
inductive SO where
  | lst (xs : List SV)
  /-- a set of ints -/
  | iset (ms : List Int)
  /-- a dict with int keys; one that is held fast (walked) -/
  | dct (kvs : List (Int × SV)) | dcf (o : Obj) (ks : List (Key × V)) (kvs : List (Int × SV))
noncomputable abbrev Sto := List SO
noncomputable abbrev EnvS := List (Option SV)
noncomputable def FzL (K : PySem.W.Frag) (H : Hp) (a : Addr) (vs : List V) : Prop := (∃ o, H a = some (.frz o (.lst vs))) ∨
    ∃ (o : Obj) (its : Array Value) (n : Nat), K.lookup a = some o ∧ o.cls = .type "list" ∧ o.dict = none ∧ o.data = .seq its n ∧ its.size ≤ sizeLine ∧ Vals vs its.toList
theorem FzL.sq {K : PySem.W.Frag} {H : Hp} {a : Addr} {vs : List V} (h : FzL K H a vs) : SqL K H a vs := h.imp (fun ⟨o, e⟩ => .inr ⟨o, e⟩) id
mutual
noncomputable def Rl (K : PySem.W.Frag) (as : List Addr) (H : Hp) : V → SV → Prop
  | v, .non => v = .non
  | v, .bl b => v = .bl b
  | v, .int i => v = .int i
  | v, .str x => v = .str x
  | v, .tup xs => ∃ p vs, v = .ref p ∧ H p = some (.tup vs) ∧ RlAll K as H vs xs
  | v, .loc k => ∃ a, as[k]? = some a ∧ v = .ref a
  | v, .ro xs => ∃ a vs, v = .ref a ∧ FzL K H a vs ∧ RlAll K as H vs xs
  | v, .ty t => v = .ty t.nm
noncomputable def RlAll (K : PySem.W.Frag) (as : List Addr) (H : Hp) : List V → List SV → Prop
  | vs, [] => vs = []
  | vs, x :: xs => ∃ v r, vs = v :: r ∧ Rl K as H v x ∧ RlAll K as H r xs
end
noncomputable def imm : HO → Bool
  | .tup _ => true
  | .frz _ (.lst _) => true
  | _ => false
noncomputable def KeepU (H H' : Hp) : Prop := ∀ b o, H b = some o → imm o = true → H' b = some o
theorem KeepU.refl (H : Hp) : KeepU H H := fun _ _ h _ => h
theorem keepU_new {H : Hp} {p : Addr} {o : HO} (hp : H p = none) : KeepU H (upd H p o) := fun b u h _ => by
  rw [upd_ne (ne_of_none h hp)]; exact h
theorem keepU_set {H : Hp} {a : Addr} {u o : HO} (h : H a = some u) (i : imm u = false) : KeepU H (upd H a o) := fun b v hb iv => by
  rw [upd_ne (ne_of hb h (by intro z; rw [z, i] at iv; cases iv))]; exact hb
theorem FzL.mono {K : PySem.W.Frag} {H H' : Hp} {a : Addr} {vs : List V} (k : KeepU H H') (h : FzL K H a vs) : FzL K H' a vs := h.imp (fun ⟨o, e⟩ => ⟨o, k _ _ e rfl⟩) id
theorem pre_get {α : Type} {as as' : List α} (h : as <+: as') {k : Nat} {a : α} (e : as[k]? = some a) : as'[k]? = some a := by
  obtain ⟨t, rfl⟩ := h
  rw [List.getElem?_append_left ((List.getElem?_eq_some_iff.mp e).1)]; exact e
mutual
theorem Rl.mono {K : PySem.W.Frag} {as as' : List Addr} {H H' : Hp} (ha : as <+: as') (hH : KeepU H H') : ∀ (x : SV) (v : V), Rl K as H v x → Rl K as' H' v x
  | .non, v, h => by unfold Rl at h ⊢; exact h
  | .bl _, v, h => by unfold Rl at h ⊢; exact h
  | .int _, v, h => by unfold Rl at h ⊢; exact h
  | .str _, v, h => by unfold Rl at h ⊢; exact h
  | .tup xs, v, h => by
    unfold Rl at h ⊢
    obtain ⟨p, vs, e, hp, h⟩ := h
    exact ⟨p, vs, e, hH p _ hp rfl, RlAll.mono ha hH xs vs h⟩
  | .ro xs, v, h => by
    unfold Rl at h ⊢
    obtain ⟨p, vs, e, hp, h⟩ := h
    exact ⟨p, vs, e, hp.mono hH, RlAll.mono ha hH xs vs h⟩
  | .ty _, v, h => by unfold Rl at h ⊢; exact h
  | .loc k, v, h => by
    unfold Rl at h ⊢
    obtain ⟨a, e, z⟩ := h
    exact ⟨a, pre_get ha e, z⟩
theorem RlAll.mono {K : PySem.W.Frag} {as as' : List Addr} {H H' : Hp} (ha : as <+: as') (hH : KeepU H H') : ∀ (xs : List SV) (vs : List V), RlAll K as H vs xs → RlAll K as' H' vs xs
  | [], vs, h => by unfold RlAll at h ⊢; exact h
  | x :: xs, vs, h => by
    unfold RlAll at h ⊢
    obtain ⟨v, r, e, h1, h2⟩ := h
    exact ⟨v, r, e, Rl.mono ha hH x v h1, RlAll.mono ha hH xs r h2⟩
end
section
variable {K : PySem.W.Frag} {as : List Addr} {H : Hp}
theorem rl_non {v : V} : Rl K as H v .non ↔ v = .non := by unfold Rl; exact Iff.rfl
theorem rl_bl {v : V} {b : Bool} : Rl K as H v (.bl b) ↔ v = .bl b := by unfold Rl; exact Iff.rfl
theorem rl_int {v : V} {i : Int} : Rl K as H v (.int i) ↔ v = .int i := by unfold Rl; exact Iff.rfl
theorem rl_str {v : V} {x : Str} : Rl K as H v (.str x) ↔ v = .str x := by unfold Rl; exact Iff.rfl
theorem rl_tup {v : V} {xs : List SV} : Rl K as H v (.tup xs) ↔ ∃ p vs, v = .ref p ∧ H p = some (.tup vs) ∧ RlAll K as H vs xs := by rw [Rl]
theorem rl_loc {v : V} {k : Nat} : Rl K as H v (.loc k) ↔ ∃ a, as[k]? = some a ∧ v = .ref a := by unfold Rl; exact Iff.rfl
theorem rl_ro {v : V} {xs : List SV} : Rl K as H v (.ro xs) ↔ ∃ a vs, v = .ref a ∧ FzL K H a vs ∧ RlAll K as H vs xs := by rw [Rl]
theorem rl_ty {v : V} {n : TyN} : Rl K as H v (.ty n) ↔ v = .ty n.nm := by unfold Rl; exact Iff.rfl
theorem rla_nil {vs : List V} : RlAll K as H vs [] ↔ vs = [] := by unfold RlAll; exact Iff.rfl
theorem rla_cons {vs : List V} {x : SV} {xs : List SV} : RlAll K as H vs (x :: xs) ↔ ∃ v r, vs = v :: r ∧ Rl K as H v x ∧ RlAll K as H r xs := by rw [RlAll]
theorem RlAll.nil : RlAll K as H [] [] := rla_nil.mpr rfl
theorem RlAll.cons {v : V} {x : SV} {vs : List V} {xs : List SV} (h : Rl K as H v x) (t : RlAll K as H vs xs) : RlAll K as H (v :: vs) (x :: xs) := rla_cons.mpr ⟨v, vs, rfl, h, t⟩
theorem RlAll.length : ∀ {xs : List SV} {vs : List V}, RlAll K as H vs xs → vs.length = xs.length
  | [], _, h => by rw [rla_nil.mp h]; rfl
  | x :: xs, _, h => by
    obtain ⟨v, r, rfl, _, t⟩ := rla_cons.mp h
    simp [t.length]
theorem RlAll.get : ∀ {xs : List SV} {vs : List V} {i : Nat} {x : SV}, RlAll K as H vs xs → xs[i]? = some x → ∃ v, vs[i]? = some v ∧ Rl K as H v x
  | [], _, i, _, _, e => by simp at e
  | y :: xs, _, 0, _, h, e => by
    obtain ⟨v, r, rfl, a, _⟩ := rla_cons.mp h
    simp at e; subst e
    exact ⟨v, rfl, a⟩
  | y :: xs, _, i + 1, _, h, e => by
    obtain ⟨v, r, rfl, _, t⟩ := rla_cons.mp h
    simpa using t.get (by simpa using e)
theorem RlAll.append : ∀ {xs ys : List SV} {vs us : List V}, RlAll K as H vs xs → RlAll K as H us ys → RlAll K as H (vs ++ us) (xs ++ ys)
  | [], _, _, _, h, h' => by rw [rla_nil.mp h]; exact h'
  | x :: xs, _, _, _, h, h' => by
    obtain ⟨v, r, rfl, a, t⟩ := rla_cons.mp h
    exact .cons a (t.append h')
theorem RlAll.take : ∀ {xs : List SV} {vs : List V} (n : Nat), RlAll K as H vs xs → RlAll K as H (vs.take n) (xs.take n)
  | _, _, 0, _ => by simpa using RlAll.nil
  | [], _, n + 1, h => by rw [rla_nil.mp h]; exact .nil
  | x :: xs, _, n + 1, h => by
    obtain ⟨v, r, rfl, a, t⟩ := rla_cons.mp h
    exact .cons a (t.take n)
theorem RlAll.drop : ∀ {xs : List SV} {vs : List V} (n : Nat), RlAll K as H vs xs → RlAll K as H (vs.drop n) (xs.drop n)
  | _, _, 0, h => h
  | [], _, n + 1, h => by rw [rla_nil.mp h]; exact .nil
  | x :: xs, _, n + 1, h => by
    obtain ⟨v, r, rfl, a, t⟩ := rla_cons.mp h
    exact t.drop n
theorem RlAll.set {x : SV} {v : V} (hx : Rl K as H v x) : ∀ {xs : List SV} {vs : List V} (n : Nat), RlAll K as H vs xs → RlAll K as H (vs.set n v) (xs.set n x)
  | [], _, n, h => by rw [rla_nil.mp h]; exact .nil
  | y :: xs, _, 0, h => by
    obtain ⟨_, r, rfl, _, t⟩ := rla_cons.mp h
    exact .cons hx t
  | y :: xs, _, n + 1, h => by
    obtain ⟨_, r, rfl, a, t⟩ := rla_cons.mp h
    exact .cons a (t.set hx n)
theorem RlAll.rev : ∀ {xs : List SV} {vs : List V}, RlAll K as H vs xs → RlAll K as H vs.reverse xs.reverse
  | [], _, h => by rw [rla_nil.mp h]; exact .nil
  | x :: xs, _, h => by
    obtain ⟨v, r, rfl, a, t⟩ := rla_cons.mp h
    rw [List.reverse_cons, List.reverse_cons]
    exact t.rev.append (.cons a .nil)
theorem RlAll.ins {x : SV} {v : V} (hx : Rl K as H v x) {xs : List SV} {vs : List V} (h : RlAll K as H vs xs) (n : Nat) : RlAll K as H (vs.take n ++ v :: vs.drop n) (xs.take n ++ x :: xs.drop n) := (h.take n).append (.cons hx (h.drop n))
theorem RlAll.ints {is : List Int} : RlAll K as H (is.map V.int) (is.map SV.int) := by
  induction is with
  | nil => exact .nil
  | cons i is ih => exact .cons (rl_int.mpr rfl) ih
end
noncomputable def RlD (K : PySem.W.Frag) (as : List Addr) (H : Hp) : List (Key × V) → List (Int × SV) → Prop
  | ks, [] => ks = []
  | ks, p :: r => ∃ v t, ks = (.inl p.1, v) :: t ∧ Rl K as H v p.2 ∧ RlD K as H t r
theorem RlD.mono {K : PySem.W.Frag} {as as' : List Addr} {H H' : Hp} (ha : as <+: as') (hH : KeepU H H') : ∀ (kvs : List (Int × SV)) (ks : List (Key × V)), RlD K as H ks kvs → RlD K as' H' ks kvs
  | [], _, h => h
  | p :: r, _, ⟨v, t, e, h1, h2⟩ => ⟨v, t, e, Rl.mono ha hH p.2 v h1, RlD.mono ha hH r t h2⟩
noncomputable def RlO (K : PySem.W.Frag) (as : List Addr) (H : Hp) (a : Addr) : SO → Prop
  | .lst xs => ∃ vs, H a = some (.lst vs) ∧ RlAll K as H vs xs
  | .iset ms => ∃ F, H a = some (.set F ms.length) ∧ ∀ k, F k = decide (k ∈ ms)
  | .dct kvs => ∃ ks, H a = some (.dK ks) ∧ RlD K as H ks kvs
  | .dcf o ks kvs => H a = some (.frz o (.dK ks)) ∧ RlD K as H ks kvs
structure Ok (K : PySem.W.Frag) (as : List Addr) (H : Hp) (S : Sto) : Prop where
  len : as.length = S.length
  nd : as.Nodup
  obj : ∀ (k : Nat) (o : SO) (a : Addr), S[k]? = some o → as[k]? = some a → RlO K as H a o
noncomputable def EnvOk (K : PySem.W.Frag) (as : List Addr) (H : Hp) (σ : St) (ρ : EnvS) : Prop := σ.length = ρ.length ∧ ∀ (i : Nat) (x : SV), ρ[i]? = some (some x) → ∃ v, σ[i]? = some (some v) ∧ Rl K as H v x
theorem EnvOk.mono {K : PySem.W.Frag} {as as' : List Addr} {H H' : Hp} {σ : St} {ρ : EnvS} (h : EnvOk K as H σ ρ) (ha : as <+: as') (hH : KeepU H H') : EnvOk K as' H' σ ρ := ⟨h.1, fun i x e => let ⟨v, a, b⟩ := h.2 i x e; ⟨v, a, Rl.mono ha hH x v b⟩⟩
theorem EnvOk.set {K : PySem.W.Frag} {as : List Addr} {H : Hp} {σ : St} {ρ : EnvS} (h : EnvOk K as H σ ρ) {i : Nat} {v : V} {x : SV} (hx : Rl K as H v x) : EnvOk K as H (σ.set i (some v)) (ρ.set i (some x)) := ⟨by rw [List.length_set, List.length_set]; exact h.1, fun j y e => by
  by_cases hij : i = j
  · subst hij
    have hi : i < ρ.length := by have := (List.getElem?_eq_some_iff.mp e).1; rwa [List.length_set] at this
    rw [List.getElem?_set_self hi] at e
    rw [List.getElem?_set_self (by rw [h.1]; exact hi)]
    cases e
    exact ⟨v, rfl, hx⟩
  · rw [List.getElem?_set_ne hij] at e ⊢
    exact h.2 j y e⟩
section
variable {K : PySem.W.Frag} {as : List Addr} {H : Hp} {S : Sto}
theorem RlO.mono {as' : List Addr} {H' : Hp} {a : Addr} (ha : as <+: as') (hH : KeepU H H') (e : ∀ u, H a = some u → H' a = some u) : ∀ {o : SO}, RlO K as H a o → RlO K as' H' a o
  | .lst xs, ⟨vs, h1, h2⟩ => ⟨vs, e _ h1, RlAll.mono ha hH xs vs h2⟩
  | .iset ms, ⟨F, h1, h2⟩ => ⟨F, e _ h1, h2⟩
  | .dct kvs, ⟨ks, h1, h2⟩ => ⟨ks, e _ h1, RlD.mono ha hH kvs ks h2⟩
  | .dcf _ ks kvs, ⟨h1, h2⟩ => ⟨e _ h1, RlD.mono ha hH kvs ks h2⟩
theorem RlO.some {a : Addr} : ∀ {o : SO}, RlO K as H a o → ∃ u, H a = some u ∧ imm u = false
  | .lst _, ⟨_, h, _⟩ => ⟨_, h, rfl⟩
  | .iset _, ⟨_, h, _⟩ => ⟨_, h, rfl⟩
  | .dct _, ⟨_, h, _⟩ => ⟨_, h, rfl⟩
  | .dcf _ _ _, ⟨h, _⟩ => ⟨_, h, rfl⟩
theorem Ok.of (h : Ok K as H S) {k : Nat} {a : Addr} (e : as[k]? = some a) : ∃ o, S[k]? = some o ∧ RlO K as H a o := by
  have hk : k < S.length := by rw [← h.len]; exact (List.getElem?_eq_some_iff.mp e).1
  exact ⟨S[k], List.getElem?_eq_getElem hk, h.obj k _ a (List.getElem?_eq_getElem hk) e⟩
theorem Ok.new (h : Ok K as H S) {p : Addr} {o : HO} (hp : H p = none) : Ok K as (upd H p o) S := ⟨h.len, h.nd, fun k u a e ea => by
  have r := h.obj k u a e ea
  obtain ⟨z, hz, _⟩ := r.some
  exact r.mono (List.prefix_refl as) (keepU_new hp) fun vs hv => by rw [upd_ne (ne_of_none hz hp)]; exact hv⟩
theorem Ok.free (h : Ok K as H S) {p : Addr} (hp : H p = none) : p ∉ as := fun hm => by
  obtain ⟨k, hk⟩ := List.getElem?_of_mem hm
  obtain ⟨o, _, r⟩ := h.of hk
  obtain ⟨z, hz, _⟩ := r.some
  rw [hp] at hz; cases hz
theorem Ok.pushO (h : Ok K as H S) {p : Addr} (hp : H p = none) {u : HO} {x : SO} (r : RlO K (as ++ [p]) (upd H p u) p x) : Ok K (as ++ [p]) (upd H p u) (S ++ [x]) := by
  have pre : as <+: as ++ [p] := List.prefix_append _ _
  refine ⟨by rw [List.length_append, List.length_append, h.len]; rfl, ?_, fun k o a e ea => ?_⟩
  · rw [List.nodup_append]
    refine ⟨h.nd, by simp, fun a ha b hb => ?_⟩
    rw [List.mem_singleton.mp hb]
    intro z; subst z; exact h.free hp ha
  · by_cases hk : k < S.length
    · rw [List.getElem?_append_left hk] at e
      rw [List.getElem?_append_left (by rw [h.len]; exact hk)] at ea
      exact ((h.new (o := u) hp).obj k o a e ea).mono pre (KeepU.refl _) fun _ z => z
    · have hk' : k = S.length := by
        have := (List.getElem?_eq_some_iff.mp e).1
        rw [List.length_append, List.length_singleton] at this
        omega
      subst hk'
      rw [List.getElem?_concat_length] at e
      rw [← h.len, List.getElem?_concat_length] at ea
      cases e; cases ea
      exact r
theorem Ok.push (h : Ok K as H S) {p : Addr} (hp : H p = none) {vs : List V} {xs : List SV} (r : RlAll K as H vs xs) : Ok K (as ++ [p]) (upd H p (.lst vs)) (S ++ [.lst xs]) := h.pushO hp ⟨vs, upd_same, RlAll.mono (List.prefix_append _ _) (keepU_new hp) xs vs r⟩
theorem Ok.writeO (h : Ok K as H S) {k : Nat} {a : Addr} {y x : SO} {u : HO} (e : S[k]? = some y) (ea : as[k]? = some a) (r : KeepU H (upd H a u) → RlO K as (upd H a u) a x) : Ok K as (upd H a u) (S.set k x) ∧ KeepU H (upd H a u) := by
  obtain ⟨z, h1, iz⟩ := (h.obj k _ a e ea).some
  have ku : KeepU H (upd H a u) := keepU_set h1 iz
  refine ⟨⟨by rw [List.length_set]; exact h.len, h.nd, fun j o b eo eb => ?_⟩, ku⟩
  by_cases hj : k = j
  · subst hj
    rw [List.getElem?_set_self ((List.getElem?_eq_some_iff.mp e).1)] at eo
    rw [ea] at eb
    cases eo; cases eb
    exact r ku
  · rw [List.getElem?_set_ne hj] at eo
    have hab : b ≠ a := fun z => by
      subst z
      exact hj ((List.getElem?_inj ((List.getElem?_eq_some_iff.mp ea).1) h.nd).mp (ea.trans eb.symm))
    exact (h.obj j o b eo eb).mono (List.prefix_refl as) ku fun ws hw => by rw [upd_ne hab]; exact hw
theorem Ok.write (h : Ok K as H S) {k : Nat} {a : Addr} {ys xs : List SV} {vs : List V} (e : S[k]? = some (.lst ys)) (ea : as[k]? = some a) (r : RlAll K as H vs xs) : Ok K as (upd H a (.lst vs)) (S.set k (.lst xs)) ∧ KeepU H (upd H a (.lst vs)) := h.writeO e ea fun ku => ⟨vs, upd_same, RlAll.mono (List.prefix_refl as) ku xs vs r⟩
end
structure Go (as : List Addr) (H : Hp) (as' : List Addr) (H' : Hp) : Prop where
  pre : as <+: as'
  keep : ∀ b o, H b = some o → b ∉ as → H' b = some o ∧ b ∉ as'
theorem Go.refl (as : List Addr) (H : Hp) : Go as H as H := ⟨List.prefix_refl _, fun _ _ h n => ⟨h, n⟩⟩
theorem Go.trans {as as1 as2 : List Addr} {H H1 H2 : Hp} (a : Go as H as1 H1) (b : Go as1 H1 as2 H2) : Go as H as2 H2 := ⟨a.pre.trans b.pre, fun x o h n => let ⟨h1, n1⟩ := a.keep x o h n; b.keep x o h1 n1⟩
theorem Go.new {as : List Addr} {H : Hp} {p : Addr} {o : HO} (hp : H p = none) : Go as H as (upd H p o) := ⟨List.prefix_refl _, fun b u h n => ⟨by rw [upd_ne (ne_of_none h hp)]; exact h, n⟩⟩
theorem Go.push {as : List Addr} {H : Hp} {p : Addr} {o : HO} (hp : H p = none) : Go as H (as ++ [p]) (upd H p o) := ⟨List.prefix_append _ _, fun b u h n => ⟨by rw [upd_ne (ne_of_none h hp)]; exact h, by
  rw [List.mem_append, List.mem_singleton]
  rintro (z | z)
  · exact n z
  · exact ne_of_none h hp z⟩⟩
theorem Go.write {as : List Addr} {H : Hp} {a : Addr} {o : HO} (ha : a ∈ as) : Go as H as (upd H a o) := ⟨List.prefix_refl _, fun b u h n => ⟨by rw [upd_ne (fun z => n (by rw [z]; exact ha))]; exact h, n⟩⟩
section
variable {K : PySem.W.Frag} {as as' : List Addr} {H H' : Hp} {S : Sto}
theorem Ok.away (h : Ok K as H S) {b : Addr} {o : HO} (e : H b = some o) (i : imm o = true) : b ∉ as := fun hm => by
  obtain ⟨k, hk⟩ := List.getElem?_of_mem hm
  obtain ⟨_, _, r⟩ := h.of hk
  obtain ⟨z, hz, iz⟩ := r.some
  rw [e] at hz; cases hz
  rw [i] at iz; cases iz
theorem Go.ku (g : Go as H as' H') (ok : Ok K as H S) : KeepU H H' := fun b o h i => (g.keep b o h (ok.away h i)).1
theorem Ok.other (h : Ok K as H S) {b : Addr} {vs us : List V} (hb : H b = some (.lst vs)) (n : b ∉ as) : Ok K as (upd H b (.lst us)) S := ⟨h.len, h.nd, fun k o a e ea => (h.obj k o a e ea).mono (List.prefix_refl as) (keepU_set hb rfl) fun ws hw => by
  rw [upd_ne (fun z => n (by rw [← z]; exact List.mem_of_getElem? ea))]; exact hw⟩
end
end Rf
set_option Elab.async false
set_option linter.all false
set_option maxRecDepth 100000
set_option maxHeartbeats 4000000
namespace L2
open PySem PySem.Spec PyProof.Rows
noncomputable def srt (ns : List Int) : List Int := ns.mergeSort (fun a b => decide (a ≤ b))
theorem srt_perm (ns : List Int) : (srt ns).Perm ns := List.mergeSort_perm _ _
theorem srt_le (ns : List Int) : (srt ns).Pairwise (· ≤ ·) := by
  have h := List.pairwise_mergeSort (le := fun (a b : Int) => decide (a ≤ b)) (fun a b c h1 h2 => by simp only [decide_eq_true_eq] at *; omega) (fun a b => by simp only [Bool.or_eq_true, decide_eq_true_eq]; omega) ns
  exact h.imp fun h => of_decide_eq_true h
theorem srt_eq {ns ns' : List Int} (hp : ns'.Perm ns) (hs : ns'.Pairwise (· ≤ ·)) : ns' = srt ns :=
  List.Perm.eq_of_pairwise (fun _ _ _ _ a b => Int.le_antisymm a b) hs (srt_le ns) (hp.trans (srt_perm ns).symm)
theorem vals_intsAre : ∀ {ns : List Int} {us : List Value}, Vals (ns.map V.int) us → IntsAre us ns
  | [], _, .nil => .nil
  | _ :: _, _, .cons ⟨_, e⟩ t => by subst e; exact .cons _ _ (vals_intsAre t)
theorem ints_vals : ∀ {ns : List Int} {us : List Value}, IntsAre us ns → Vals (ns.map V.int) us
  | _, _, .nil => .nil
  | _, _, .cons _ _ t => .cons ⟨_, rfl⟩ (ints_vals t)
theorem b_sorted : bootBuiltins "sorted" = some (.builtin "sorted") := by decide +kernel
section
variable {X : Cx}
theorem call_sorted : CallR X (.builtin "sorted") (fun xs H Q => ∃ p ns, xs = [.ref p] ∧ SqL X.K H p (ns.map V.int) ∧ ns.length < 64 ∧ ∀ l, H l = none → Q (.ref l) (upd H l (.lst ((srt ns).map V.int)))) := by
  intro pins s σ H xs us Q I r h
  obtain ⟨p, ns, rfl, hq, h64, q⟩ := h
  obtain ⟨u, rfl, rx⟩ := vals1 r
  cases rx
  obtain ⟨its, r', pl, hz⟩ := I.list hq
  have hlen := r'.length
  rw [List.length_map] at hlen
  refine sorted_ints pl.isList (vals_intsAre r') (by omega) fun out ns' a1 a2 a3 => ?_
  obtain ⟨e, he⟩ := sortedAll_at s.heap its out
  have en := srt_eq a2 a3
  subst en
  refine ⟨.ref (s.heap.objs.size + 1), _, I.laid (t' := s.toks) (fun b o h => sortedAll_old h) (Nat.le_succ _) (show ObjOk X.prog X.w _ _ _ (.lst ((srt ns).map V.int)) from ⟨?_, out.toList, e, ints_vals a1, by simpa using he⟩), rfl, q _ (I.hok.fresh (Nat.le_succ _))⟩
  rw [List.length_map, a2.length_eq]
  exact Nat.le_trans (Nat.le_of_lt h64) (by decide)
end
end L2
set_option Elab.async false
set_option linter.all false
set_option maxRecDepth 100000
set_option maxHeartbeats 4000000
namespace L2
open PySem PySem.Spec PyProof.Rows
section
variable {κ : Type} [DecidableEq κ]
noncomputable def valV (kvs : List (κ × V)) (k : κ) : Option V := (kvs.find? fun kv => decide (kv.1 = k)).map (·.2)
noncomputable def putK (kvs : List (κ × V)) (k : κ) (v : V) : List (κ × V) :=
  if (kvs.any fun kv => decide (kv.1 = k)) = true then kvs.map (fun kv => if kv.1 = k then (kv.1, v) else kv) else kvs ++ [(k, v)]
theorem valV_pos {p : κ × V} {r : List (κ × V)} {k : κ} (e : p.1 = k) : valV (p :: r) k = some p.2 := by simp [valV, List.find?_cons, e]
theorem valV_neg {p : κ × V} {r : List (κ × V)} {k : κ} (e : ¬ p.1 = k) : valV (p :: r) k = valV r k := by simp [valV, List.find?_cons, e]
theorem valV_any (k : κ) : ∀ kvs : List (κ × V), (kvs.any fun kv => decide (kv.1 = k)) = (valV kvs k).isSome
  | [] => rfl
  | p :: r => by
    rw [List.any_cons]
    by_cases e : p.1 = k
    · simp only [valV_pos e, decide_eq_true e, Bool.true_or, Option.isSome_some]
    · rw [valV_neg e, decide_eq_false e, Bool.false_or]; exact valV_any k r
theorem length_putK (kvs : List (κ × V)) (k : κ) (v : V) : (putK kvs k v).length ≤ kvs.length + 1 := by
  unfold putK
  split
  · rw [List.length_map]; omega
  · rw [List.length_append, List.length_cons, List.length_nil]; omega
theorem RelO.isSome_eq {o : Option V} {u : Option Value} (r : RelO o u) : o.isSome = u.isSome := by
  cases o with
  | none => cases u with
    | none => rfl
    | some _ => exact (show False from r).elim
  | some _ => cases u with
    | none => exact (show False from r).elim
    | some _ => rfl
theorem KV.val {kvs : List (κ × V)} {vs : List (κ × Value)} (r : KV kvs vs) (k : κ) : RelO (valV kvs k) (valueAt vs k) := by
  unfold KV at r
  induction r with
  | nil => exact True.intro
  | @cons p q ps qs h t ih =>
    obtain ⟨h1, h2⟩ := h
    by_cases e : p.1 = k
    · have e' : q.1 = k := h1.symm.trans e
      have b : valueAt (q :: qs) k = some q.2 := by simp [valueAt, List.find?_cons, e']
      rw [valV_pos e, b]; exact h2
    · have e' : ¬ q.1 = k := fun z => e (h1.trans z)
      have b : valueAt (q :: qs) k = valueAt qs k := by simp [valueAt, List.find?_cons, e']
      rw [valV_neg e, b]; exact ih
theorem KV.any {kvs : List (κ × V)} {vs : List (κ × Value)} (r : KV kvs vs) (k : κ) : (kvs.any fun kv => decide (kv.1 = k)) = vs.any fun kv => decide (kv.1 = k) := by
  unfold KV at r
  induction r with
  | nil => rfl
  | cons h t ih => rw [List.any_cons, List.any_cons, ih, h.1]
theorem KV.repl {kvs : List (κ × V)} {vs : List (κ × Value)} (r : KV kvs vs) (k : κ) {y : V} {u : Value} (ry : RelV y u) :
    KV (kvs.map fun kv => if kv.1 = k then (kv.1, y) else kv) (vs.map fun kv => if kv.1 = k then (kv.1, u) else kv) := by
  unfold KV at r ⊢
  induction r with
  | nil => exact .nil
  | @cons p q ps qs h t ih =>
    rw [List.map_cons, List.map_cons]
    refine .cons ?_ ih
    obtain ⟨h1, h2⟩ := h
    by_cases e : p.1 = k
    · rw [if_pos e, if_pos (h1.symm.trans e)]; exact ⟨h1, ry⟩
    · rw [if_neg e, if_neg (fun z => e (h1.trans z))]; exact ⟨h1, h2⟩
theorem KV.put {kvs : List (κ × V)} {vs : List (κ × Value)} (r : KV kvs vs) (k : κ) {y : V} {u : Value} (ry : RelV y u) : KV (putK kvs k y) (stored vs k u) := by
  unfold putK stored
  rw [r.any k]
  by_cases e : (vs.any fun kv => decide (kv.1 = k)) = true
  · rw [if_pos e, if_pos e]; exact r.repl k ry
  · rw [if_neg e, if_neg e]; exact Paired.snoc r ⟨rfl, ry⟩
theorem KV.keys {kvs : List (κ × V)} {vs : List (κ × Value)} (r : KV kvs vs) : kvs.map (·.1) = vs.map (·.1) := by
  unfold KV at r
  induction r with
  | nil => rfl
  | cons h t ih => rw [List.map_cons, List.map_cons, ih, h.1]
theorem KV.length {kvs : List (κ × V)} {vs : List (κ × Value)} (r : KV kvs vs) : kvs.length = vs.length := Paired.length r
end
theorem kV_is {P : Program} {w : World} {k : Key} {u : Value} (r : RelV (kV k) u) : (mixKind P w).is k u = true := by
  cases k with
  | inl i => obtain ⟨t, e⟩ := (show ∃ t, u = Value.int i t from r); subst e; exact mixKind_int P w i t
  | inr x => obtain ⟨t, e⟩ := (show ∃ t, u = Value.str x t from r); subst e; exact mixKind_str P w x t
theorem items_are {P : Program} {w : World} : ∀ {ks : List Key} {us : List Value}, Vals (ks.map kV) us → ItemsAre (mixKind P w) ks us
  | [], _, r => by rw [List.map_nil] at r; cases r; exact .nil
  | k :: ks, _, r => by
    rw [List.map_cons] at r
    cases r with
    | cons h t => exact .cons (kV_is h) (items_are t)
noncomputable abbrev KT (H : Hp) : List (List Key × V) → List (List Key × Addr × Value) → Prop := Paired fun p q => p.1 = q.1 ∧ H q.2.1 = some (.tup (p.1.map kV)) ∧ RelV p.2 q.2.2
theorem KT.val {H : Hp} {kvs : List (List Key × V)} {xs : List (List Key × Addr × Value)} (r : KT H kvs xs) (k : List Key) : RelO (valV kvs k) ((atKey xs k).map (·.2)) := by
  induction r with
  | nil => exact True.intro
  | @cons p q ps qs h t ih =>
    obtain ⟨h1, _, h2⟩ := h
    by_cases e : p.1 = k
    · have e' : q.1 = k := h1.symm.trans e
      have b : atKey (q :: qs) k = some q.2 := by simp [atKey, List.find?_cons, e']
      rw [valV_pos e, b]; exact h2
    · have e' : ¬ q.1 = k := fun z => e (h1.trans z)
      have b : atKey (q :: qs) k = atKey qs k := by simp [atKey, List.find?_cons, e']
      rw [valV_neg e, b]; exact ih
theorem KT.repl {H : Hp} {kvs : List (List Key × V)} {xs : List (List Key × Addr × Value)} (r : KT H kvs xs) (k : List Key) {y : V} {u : Value} (ry : RelV y u) :
    KT H (kvs.map fun kv => if kv.1 = k then (kv.1, y) else kv) (xs.map (putAt k u)) := by
  induction r with
  | nil => exact .nil
  | @cons p q ps qs h t ih =>
    rw [List.map_cons, List.map_cons]
    refine .cons ?_ ih
    obtain ⟨h1, h2, h3⟩ := h
    unfold putAt
    by_cases e : p.1 = k
    · rw [if_pos e, if_pos (h1.symm.trans e)]; exact ⟨h1, h2, ry⟩
    · rw [if_neg e, if_neg (fun z => e (h1.trans z))]; exact ⟨h1, h2, h3⟩
theorem KT.put {H : Hp} {kvs : List (List Key × V)} {xs : List (List Key × Addr × Value)} (r : KT H kvs xs) (k : List Key) {b : Addr} {y : V} {u : Value} (hb : H b = some (.tup (k.map kV))) (ry : RelV y u) :
    KT H (putK kvs k y) (storedH xs k b u) := by
  have e : (kvs.any fun kv => decide (kv.1 = k)) = (atKey xs k).isSome := by
    rw [valV_any, (r.val k).isSome_eq, Option.isSome_map]
  unfold putK storedH
  rw [e]
  by_cases q : (atKey xs k).isSome = true
  · rw [if_pos q, if_pos q]; exact r.repl k ry
  · rw [if_neg q, if_neg q]; exact Paired.snoc r ⟨rfl, hb, ry⟩
theorem KT.keeps {H H' : Hp} {kvs : List (List Key × V)} {xs : List (List Key × Addr × Value)} (r : KT H kvs xs) (ht : ∀ b ys, H b = some (.tup ys) → H' b = some (.tup ys)) : KT H' kvs xs :=
  Paired.mapP r fun _ _ z => ⟨z.1, ht _ _ z.2.1, z.2.2⟩
section
variable {P : Program} {w : World} {H : Hp} {h : Heap} {a : Addr}
theorem rd_of {u : HO} (ok : HOk P w H h) (e : Rd H a u) : ObjOk P w H h a u := e.ok ok
theorem dk_rd {kvs : List (Key × V)} (ok : HOk P w H h) (e : Rd H a (.dK kvs)) : kvs.length ≤ sizeLine ∧ (a == sysModules) = false ∧ ∃ vs, KV kvs vs ∧ h.DictOf (mixKind P w) a vs :=
  show ObjOk P w H h a (.dK kvs) from rd_of ok e
theorem dk_of {kvs : List (Key × V)} (ok : HOk P w H h) (e : H a = some (.dK kvs)) : kvs.length ≤ sizeLine ∧ (a == sysModules) = false ∧ ∃ vs, KV kvs vs ∧ h.DictOf (mixKind P w) a vs := dk_rd ok (.inl e)
theorem key_of {ks : List Key} (ok : HOk P w H h) (e : H a = some (.tup (ks.map kV))) : (tupleKind (mixKind P w)).is h ks a := by
  obtain ⟨_, its, r, o, h1, h2, n, h3⟩ := (show ObjOk P w H h a (.tup (ks.map kV)) from ok a _ e)
  exact ⟨o, its.toArray, n, h1, h2, h3, by simpa using items_are r⟩
theorem dt_rd {kvs : List (List Key × V)} (ok : HOk P w H h) (e : Rd H a (.dT kvs)) : kvs.length ≤ sizeLine ∧ (a == sysModules) = false ∧
    ∃ xs, KT H kvs xs ∧ h.DictOfH (tupleKind (mixKind P w)) a xs := by
  obtain ⟨z, y, xs, r, o, es, ep, h1, h2, h3, h4, h5⟩ := (show ObjOk P w H h a (.dT kvs) from rd_of ok e)
  refine ⟨z, y, xs, r, o, es, ep, h1, h2, h3, h4, fun x hx => ?_, h5⟩
  have all : ∀ {l : List (List Key × V)} {m : List (List Key × Addr × Value)}, KT H l m → ∀ x ∈ m, (tupleKind (mixKind P w)).is h x.1 x.2.1 := by
    intro l m q
    induction q with
    | nil => intro x hx; exact nomatch hx
    | @cons p q ps qs hq t ih =>
      intro x hx
      rcases List.mem_cons.mp hx with e | hx
      · subst e
        exact key_of ok (by rw [← hq.1]; exact hq.2.1)
      · exact ih x hx
  exact all r x hx
theorem dt_of {kvs : List (List Key × V)} (ok : HOk P w H h) (e : H a = some (.dT kvs)) : kvs.length ≤ sizeLine ∧ (a == sysModules) = false ∧
    ∃ xs, KT H kvs xs ∧ h.DictOfH (tupleKind (mixKind P w)) a xs := dt_rd ok (.inl e)
end
noncomputable def DGet (H : Hp) (a : Addr) (y : V) (r : Option V) : Prop :=
  (∃ kvs k, Rd H a (.dK kvs) ∧ y = kV k ∧ r = valV kvs k) ∨ ∃ kvs k b, Rd H a (.dT kvs) ∧ y = .ref b ∧ H b = some (.tup (k.map kV)) ∧ r = valV kvs k
noncomputable def DPut (H : Hp) (a : Addr) (y v : V) (H' : Hp) : Prop :=
  (∃ kvs k, H a = some (.dK kvs) ∧ y = kV k ∧ kvs.length < sizeLine ∧ H' = upd H a (.dK (putK kvs k v))) ∨
  ∃ kvs k b, H a = some (.dT kvs) ∧ y = .ref b ∧ H b = some (.tup (k.map kV)) ∧ kvs.length < sizeLine ∧ H' = upd H a (.dT (putK kvs k v))
section
variable {X : Cx} {pins : List (Addr × Obj)} {σ : St} {H : Hp} {s : Shared} {a : Addr} {y v : V} {u r : Value} {o : Option V} {A : Around} {E : Value → Shared → Prop}
theorem Inv.big (I : Inv X pins σ H s) : sysModules < s.heap.objs.size := by
  have h : mainGlobals < s.heap.objs.size := (I.mod.glob.keeps I.bk).lt
  exact Nat.lt_trans (by decide) h
theorem d_getItem {Q : Value → Shared → Prop} (hu : A.units + 1 < cLine) (I : Inv X pins σ H s) (g : DGet H a y (some v)) (ry : RelV y u) (h : ∀ w' s', Inv X pins σ H s' → RelV v w' → Q w' s') :
    wpAny (model X.prog X.w) A (getItem (.ref a) u) Q E s := by
  rcases g with ⟨kvs, k, e, ey, l⟩ | ⟨kvs, k, b, e, ey, eb, l⟩
  · subst ey
    obtain ⟨z, hd, vs, rel, dd⟩ := dk_rd I.hok e
    obtain ⟨w', hw, rw'⟩ := RelO.some_of (v := v) (o := valueAt vs k) (by rw [l]; exact rel.val k)
    exact wpAny_getItem_of (kV_is ry) dd.mapOf hw (h w' _ (I.tok _) rw')
  · subst ey
    cases (show u = Value.ref b from ry)
    obtain ⟨z, hd, xs, rel, dd⟩ := dt_rd I.hok e
    obtain ⟨w', hw, rw'⟩ := RelO.some_of (v := v) (o := (atKey xs k).map (·.2)) (by rw [l]; exact rel.val k)
    obtain ⟨p, hp, hp2⟩ := Option.map_eq_some_iff.mp hw
    refine wpAny_getItem_heap (tupleKind_room_in1 hu) (key_of I.hok eb) dd hp ?_
    rw [hp2]
    exact h w' _ (I.tok _) rw'
theorem d_write {h' : Heap} {t' : Nat} {ob : HO} (I : Inv X pins σ H s) (mu : Mut (H a)) (hs : Heap.SameBut a s.heap h') (he : ∃ q, h'.get? a = some q) (new : ObjOk X.prog X.w (upd H a ob) h' a ob) :
    Inv X pins σ (upd H a ob) { s with heap := h', toks := t' } :=
  I.write (x := a) (e := a) mu (.inl rfl) (fun b q hb z => (hs.2 b hb).trans z) he new
theorem dk_new {P : Program} {w : World} {H' : Hp} {h' : Heap} {kvs : List (Key × V)} {vs : List (Key × Value)} (z : kvs.length ≤ sizeLine) (hd : (a == sysModules) = false) (rel : KV kvs vs) (dd : h'.DictOf (mixKind P w) a vs) :
    ObjOk P w H' h' a (.dK kvs) := ⟨z, hd, vs, rel, dd⟩
theorem d_setItem {H' : Hp} {Q : Unit → Shared → Prop} (hu : A.units + 1 < cLine) (I : Inv X pins σ H s) (g : DPut H a y v H') (ry : RelV y u) (rv : RelV v r) (h : ∀ s', Inv X pins σ H' s' → Q () s') :
    wpAny (model X.prog X.w) A (setItem (.ref a) u r) Q E s := by
  rcases g with ⟨kvs, k, e, ey, l, eH⟩ | ⟨kvs, k, b, e, ey, eb, l, eH⟩
  · subst ey eH
    obtain ⟨z, hd, vs, rel, dd⟩ := dk_of I.hok e
    have hz : vs.length ≤ sizeLine := by rw [← rel.length]; exact z
    have hl : (putK kvs k v).length ≤ sizeLine := by have := length_putK kvs k v; omega
    refine wpAny_setItem_pairs (hsz := hz) (kV_is ry) dd fun h' dd' hs => h _ ?_
    have he : ∃ q, h'.get? a = some q := let ⟨q, _, _, hq, _⟩ := dd'; ⟨q, hq⟩
    exact d_write I (by rw [e]; exact True.intro) hs he (dk_new hl hd (rel.put k rv) dd')
  · subst ey eH
    cases (show u = Value.ref b from ry)
    obtain ⟨z, hd, xs, rel, dd⟩ := dt_of I.hok e
    have hz : xs.length ≤ sizeLine := by rw [← Paired.length rel]; exact z
    have hl : (putK kvs k v).length ≤ sizeLine := by have := length_putK kvs k v; omega
    refine wpAny_setItem_heap (hsz := hz) (tupleKind_room_in1 hu) (key_of I.hok eb) dd fun h' dd' hs => h _ ?_
    obtain ⟨q, es, ep, hq, h2, h3, h4, _, h5⟩ := dd'
    refine d_write I (by rw [e]; exact True.intro) hs ⟨q, hq⟩ ⟨hl, hd, _, (rel.put k eb rv).keeps fun c ys ec => ?_, q, es, ep, hq, h2, h3, h4, h5⟩
    rw [upd_ne (ne_of ec e (fun z => nomatch z))]
    exact ec
end
section
variable {X : Cx} {pins : List (Addr × Obj)} {σ : St} {H : Hp} {s : Shared} {a : Addr} {kvs : List (Key × V)} {k : Key} {u : Value} {A : Around} {E : Value → Shared → Prop}
end
noncomputable def NoSl (i : Expr) : Prop := ∀ ov iv, subscripted i false ov iv = operate [ov, iv] (getItem ov iv)
theorem subD_of {prog : Program} {w : World} {A : Around} {E : Value → Shared → Prop} {s : Shared} {env : Env} {value slice : Expr} {pos : Pos} {T id : String} {Q : Value → Shared → Prop}
    (hl : typeLookup (.type T) "__getitem__" = pure (some (.builtin id))) (hs : NoSl slice)
    (h : wpAny (model prog w) A (eval value env) (fun o s₁ => wpAny (model prog w) A (eval slice env) (fun i s₂ => s₂.TypeIs o T ∧ wpAny (model prog w) A (getItem o i) Q E s₂) E s₁) E s) :
    wpAny (model prog w) A (eval (.Subscript value slice pos) env) Q E s := by
  refine Subscript_ (wpAny_mono h (fun o s₁ h₁ => wpAny_mono h₁ (fun i s₂ h₂ => ?_) fun _ _ x => x) fun _ _ x => x)
  obtain ⟨hT, h₂⟩ := h₂
  unfold subscriptTail
  refine wpAny_bind ?_
  rw [getitemInPython_of_ne hT.not_modules]
  refine wpAny_bind (wpAny_specialOf hT hl ?_)
  have fin : wpAny (model prog w) A (subscripted slice false o i) (fun r s₃ => wpAny (model prog w) A (letTemporaryGo value o r >>= fun _ => pure r) Q E s₃) E s₂ := by
    rw [hs o i]
    exact wpAny_operating (wpAny_mono h₂ (fun r s₃ h₃ => wpAny_bind (wpAny_letTemporaryGo (wpAny_pure h₃))) fun _ _ x => x)
  first
    | exact wpAny_pure (wpAny_bind fin)
    | exact wpAny_bind (wpAny_pure (wpAny_bind fin))
    | exact wpAny_bind fin
theorem dict_typeIs {X : Cx} {pins : List (Addr × Obj)} {σ : St} {H : Hp} {s : Shared} {a : Addr} {y : V} {o : Option V} (I : Inv X pins σ H s) (g : DGet H a y o) : s.TypeIs (.ref a) "dict" := by
  rcases g with ⟨kvs, k, e, _, _⟩ | ⟨kvs, k, b, e, _, _, _⟩
  · obtain ⟨_, _, vs, _, dd⟩ := dk_rd I.hok e
    exact dd.typeIs
  · obtain ⟨_, _, xs, _, dd⟩ := dt_rd I.hok e
    exact dd.typeIs
noncomputable def tDGet (td ty : TE) : TE := fun σ H Q => td σ H fun x H1 => ty σ H1 fun y H2 => ∃ a v, x = .ref a ∧ DGet H2 a y (some v) ∧ Q v H2
section
variable {X : Cx} {o i e value : Expr} {pos pos' tpos : Pos} {td ty tv : TE}
theorem pe_dget (hu : X.A.units + 1 < cLine) (ho : PE X o td) (hi : PE X i ty) (hs : NoSl i) : PE X (.Subscript o i pos) (tDGet td ty) := by
  intro pins s σ H Q I h
  refine subD_of PySem.F.slot_dict_getitem.lookup hs (thn (ho pins s σ H _ I h) fun u s1 ⟨x, H1, I1, rx, q1⟩ => thn (hi pins s1 σ H1 _ I1 q1) fun iv s2 ⟨y, H2, I2, ry, a, v, ex, g, q2⟩ => ?_)
  subst ex
  obtain rfl : u = Value.ref a := rx
  exact ⟨dict_typeIs I2 g, d_getItem hu I2 g ry fun w' s3 I3 rw' => ⟨v, H2, I3, rw', q2⟩⟩
end
section
variable {X : Cx} {pos : Pos}
end
noncomputable def mergeK (kvs more : List (Key × V)) : List (Key × V) := more.foldl (fun acc kv => putK acc kv.1 kv.2) kvs
theorem KV.merge : ∀ {more : List (Key × V)} {rs : List (Key × Value)} {kvs : List (Key × V)} {vs : List (Key × Value)}, KV more rs → KV kvs vs → KV (mergeK kvs more) (merged vs rs) := by
  intro more rs kvs vs r
  unfold KV at r
  induction r generalizing kvs vs with
  | nil => intro q; exact q
  | @cons p q ps qs h t ih =>
    intro r0
    have e : KV (putK kvs p.1 p.2) (stored vs q.1 q.2) := by
      have := r0.put p.1 h.2
      rw [← h.1]; exact this
    exact ih e
section
variable {X : Cx} {pins : List (Addr × Obj)} {σ : St} {H : Hp} {s : Shared} {a : Addr} {y d : V} {u r : Value} {o : Option V} {A : Around} {E : Value → Shared → Prop}
end
section
variable {X : Cx} {o e f : Expr} {apos cpos : Pos} {td ty tx : TE}
end
section
variable {X : Cx} {pins : List (Addr × Obj)} {σ : St} {H : Hp} {s : Shared} {a : Addr} {kvs : List (Key × V)} {A : Around} {E : Value → Shared → Prop}
end
section
variable {X : Cx} {pins : List (Addr × Obj)} {σ : St} {H : Hp} {s : Shared} {a : Addr} {y : V} {u : Value} {A : Around} {E : Value → Shared → Prop}
end
end L2
namespace L2
open PySem PySem.Spec PyProof.Rows
section
variable {X : Cx}
end
section
variable {κ : Type} [DecidableEq κ]
end
end L2
set_option Elab.async false
set_option linter.all false
set_option maxRecDepth 100000
set_option maxHeartbeats 4000000
namespace L2
open PySem PySem.Spec PyProof.Rows
section
variable {prog : Program} {w : World} {A : Around} {E : Value → Shared → Prop} {s : Shared}
end
section
variable {X : Cx} {pins : List (Addr × Obj)} {σ : St} {H : Hp} {s : Shared} {a : Addr} {A : Around} {E : Value → Shared → Prop}
end
section
variable {X : Cx} {o e f : Expr} {apos cpos : Pos} {td ty tx : TE}
end
end L2
set_option Elab.async false
set_option linter.all false
set_option maxRecDepth 100000
set_option maxHeartbeats 4000000
namespace L2
open PySem PySem.Spec PyProof.Rows
section
variable {X : Cx}
end
end L2
set_option Elab.async false
set_option linter.all false
set_option maxRecDepth 100000
set_option maxHeartbeats 4000000
namespace L2
open PySem PySem.Spec PyProof.Rows
mutual
noncomputable def Dat (H : Hp) : V → PyData → Prop
  | x, .none => x = .non
  | x, .bool b => x = .bl b
  | x, .int i => x = .int i
  | x, .str s => x = .str s
  | x, .list ds => ∃ a xs, x = .ref a ∧ H a = some (.lst xs) ∧ DatAll H xs ds
  | x, .tuple ds => ∃ a xs, x = .ref a ∧ H a = some (.tup xs) ∧ DatAll H xs ds
  | _, .dict _ => False
noncomputable def DatAll (H : Hp) : List V → List PyData → Prop
  | [], [] => True
  | x :: xs, d :: ds => Dat H x d ∧ DatAll H xs ds
  | [], _ :: _ => False
  | _ :: _, [] => False
end
mutual
theorem Dat.mono {H H' : Hp} (k : ∀ b o, H b = some o → H' b = some o) : ∀ (x : V) (d : PyData), Dat H x d → Dat H' x d
  | _, .none, h => by unfold Dat at h ⊢; exact h
  | _, .bool _, h => by unfold Dat at h ⊢; exact h
  | _, .int _, h => by unfold Dat at h ⊢; exact h
  | _, .str _, h => by unfold Dat at h ⊢; exact h
  | x, .list ds, h => by
    unfold Dat at h ⊢
    obtain ⟨a, xs, e, h1, h2⟩ := h
    exact ⟨a, xs, e, k _ _ h1, DatAll.mono k xs ds h2⟩
  | x, .tuple ds, h => by
    unfold Dat at h ⊢
    obtain ⟨a, xs, e, h1, h2⟩ := h
    exact ⟨a, xs, e, k _ _ h1, DatAll.mono k xs ds h2⟩
  | _, .dict _, h => by unfold Dat at h; exact h.elim
theorem DatAll.mono {H H' : Hp} (k : ∀ b o, H b = some o → H' b = some o) : ∀ (xs : List V) (ds : List PyData), DatAll H xs ds → DatAll H' xs ds
  | [], [], _ => by unfold DatAll; trivial
  | x :: xs, d :: ds, h => by
    unfold DatAll at h ⊢
    exact ⟨Dat.mono k x d h.1, DatAll.mono k xs ds h.2⟩
  | [], _ :: _, h => by unfold DatAll at h; exact h.elim
  | _ :: _, [], h => by unfold DatAll at h; exact h.elim
end
section
variable {X : Cx} {pins : List (Addr × Obj)} {σ : St} {H : Hp} {s : Shared}
mutual
theorem Inv.reads (I : Inv X pins σ H s) : ∀ (x : V) (d : PyData) (v : Value), Dat H x d → RelV x v → ∃ as, Reads s.heap v d as
  | _, .none, _, h, r => by unfold Dat at h; subst h; cases r; exact ⟨_, .none⟩
  | _, .bool _, _, h, r => by unfold Dat at h; subst h; cases r; exact ⟨_, .bool _⟩
  | _, .int _, _, h, r => by unfold Dat at h; subst h; obtain ⟨t, rfl⟩ := r; exact ⟨_, .int _ _⟩
  | _, .str _, _, h, r => by unfold Dat at h; subst h; obtain ⟨t, rfl⟩ := r; exact ⟨_, .str _ _⟩
  | x, .list ds, v, h, r => by
    unfold Dat at h
    obtain ⟨a, xs, rfl, h1, h2⟩ := h
    cases r
    obtain ⟨its, rv, pl, _⟩ := I.list (SqL.of h1)
    obtain ⟨o, n, ho, hc, _, hd⟩ := pl
    obtain ⟨as, ra⟩ := Inv.readsAll I xs ds its h2 rv
    exact ⟨_, .list ho hc hd (by simpa using ra)⟩
  | x, .tuple ds, v, h, r => by
    unfold Dat at h
    obtain ⟨a, xs, rfl, h1, h2⟩ := h
    cases r
    obtain ⟨its, rv, pl, _⟩ := I.tuple (SqT.of h1)
    obtain ⟨o, ho, hc, n, hd⟩ := pl
    obtain ⟨as, ra⟩ := Inv.readsAll I xs ds its h2 rv
    exact ⟨_, .tuple ho hc hd (by simpa using ra)⟩
  | _, .dict _, _, h, _ => by unfold Dat at h; exact h.elim
theorem Inv.readsAll (I : Inv X pins σ H s) : ∀ (xs : List V) (ds : List PyData) (vs : List Value), DatAll H xs ds → Vals xs vs → ∃ as, ReadsAll s.heap vs ds as
  | [], [], _, _, r => by cases r; exact ⟨_, .nil⟩
  | x :: xs, d :: ds, _, h, r => by
    unfold DatAll at h
    cases r with
    | cons r1 r2 =>
      obtain ⟨as, ra⟩ := Inv.reads I x d _ h.1 r1
      obtain ⟨bs, rb⟩ := Inv.readsAll I xs ds _ h.2 r2
      exact ⟨_, .cons ra rb⟩
  | [], _ :: _, _, h, _ => by unfold DatAll at h; exact h.elim
  | _ :: _, [], _, h, _ => by unfold DatAll at h; exact h.elim
end
end
mutual
theorem Dat.noDict {H : Hp} : ∀ (x : V) (d : PyData), Dat H x d → d.hasDict = false
  | _, .none, _ => by simp only [PyData.hasDict]
  | _, .bool _, _ => by simp only [PyData.hasDict]
  | _, .int _, _ => by simp only [PyData.hasDict]
  | _, .str _, _ => by simp only [PyData.hasDict]
  | x, .list ds, h => by
    unfold Dat at h
    obtain ⟨a, xs, e, h1, h2⟩ := h
    simp only [PyData.hasDict]
    exact DatAll.noDict xs ds h2
  | x, .tuple ds, h => by
    unfold Dat at h
    obtain ⟨a, xs, e, h1, h2⟩ := h
    simp only [PyData.hasDict]
    exact DatAll.noDict xs ds h2
  | _, .dict _, h => by unfold Dat at h; exact h.elim
theorem DatAll.noDict {H : Hp} : ∀ (xs : List V) (ds : List PyData), DatAll H xs ds → PyData.hasDictAll ds = false
  | [], [], _ => by simp only [PyData.hasDictAll]
  | x :: xs, d :: ds, h => by
    unfold DatAll at h
    simp only [PyData.hasDictAll, Bool.or_eq_false_iff]
    exact ⟨Dat.noDict x d h.1, DatAll.noDict xs ds h.2⟩
  | [], _ :: _, h => by unfold DatAll at h; exact h.elim
  | _ :: _, [], h => by unfold DatAll at h; exact h.elim
end
noncomputable def strD : PyData → Str
  | .str x => x
  | d => d.shown
section
variable {X : Cx}
structure Fit (d : PyData) : Prop where
  sh : d.showable = true
  sz : d.shown.length ≤ sizeLine
  dp : d.depth ≤ 40
theorem call_strD (hg : X.A.guards = some []) (hu : X.A.units + 100 < cLine) : CallR X (.type "str") (fun xs H Q => ∃ x d, xs = [x] ∧ Dat H x d ∧ Fit d ∧ Q (.str (strD d)) H) := by
  intro pins s σ H xs us Q I r h
  obtain ⟨x, d, rfl, hd, f, q⟩ := h
  obtain ⟨u, rfl, ru⟩ := vals1 r
  have refs : ∀ a, u = .ref a → (∀ z, d ≠ .str z) → wpAny (model X.prog X.w) X.A (call (.type "str") [u]) (EP X pins σ Q) X.xe s := fun a e hn => by
    subst e
    obtain ⟨as, rd⟩ := I.reads x d _ hd ru
    refine str_of_reads rd f.sh (PyData.noDict_hsm (Dat.noDict x d hd)) hg (by have := f.dp; omega) (fun _ _ e => e) (fun h' u tk hk => ?_) f.sz
    refine ⟨.str d.shown, H, I.kept (t' := tk) hk, ⟨_, rfl⟩, ?_⟩
    have e : strD d = d.shown := by
      cases d with
      | str z => exact absurd rfl (hn z)
      | _ => rfl
    rw [← e]; exact q
  cases d with
  | none => unfold Dat at hd; subst hd; cases ru; exact P.str_of_none ⟨.str "None", H, I.tok _, ⟨_, rfl⟩, q⟩
  | bool b => unfold Dat at hd; subst hd; cases ru; exact P.str_of_bool ⟨.str (if b then "True" else "False"), H, I.tok _, ⟨_, rfl⟩, by cases b <;> exact q⟩
  | int i => unfold Dat at hd; subst hd; obtain ⟨t, rfl⟩ := ru; exact P.str_of_int (by have := f.sh; simpa [PyData.showable] using this) ⟨.str (toString i), H, I.tok _, ⟨_, rfl⟩, q⟩
  | str z => unfold Dat at hd; subst hd; obtain ⟨t, rfl⟩ := ru; exact P.str_of_str ⟨.str z, H, I, ⟨_, rfl⟩, q⟩
  | list ds =>
    have hd' := hd
    unfold Dat at hd'
    obtain ⟨a, xs, rfl, _⟩ := hd'
    exact refs a ru (fun z e => nomatch e)
  | tuple ds =>
    have hd' := hd
    unfold Dat at hd'
    obtain ⟨a, xs, rfl, _⟩ := hd'
    exact refs a ru (fun z e => nomatch e)
  | dict _ => unfold Dat at hd; exact hd.elim
end
section
variable {X : Cx} {a b c d : Expr} {ta tb tc td : TE} {pos : Pos}
end
section
variable {X : Cx} {a b : Expr} {ta : TE} {pos : Pos}
theorem op_isNotB : OpR X (compareOp .IsNot) (fun x y H Q => ∃ c d, x = .bl c ∧ y = .bl d ∧ Q (.bl (c != d)) H) := by
  intro pins s σ H x y v u Q I rx ry h
  obtain ⟨c, d, rfl, rfl, q⟩ := h
  cases rx
  cases ry
  exact isnot_bool ⟨.bl (c != d), H, I, rfl, q⟩
end
section
variable {X : Cx}
theorem hue_cat0 {prog : Program} {w : World} {A : Around} {E : Value → Shared → Prop} {s : Shared} {t b : Addr} {ws : List Value} {Q : Value → Shared → Prop} (ht : IsTup s.heap t #[]) (hb : IsTup s.heap b ws.toArray) (h1 : Q (.ref b) s) :
    wpAny (model prog w) A (binaryOp .Add (.ref t) (.ref b)) Q E s := by
  obtain ⟨⟨cls, dd, data, sl⟩, ho, hc, n, hd⟩ := id ht
  obtain ⟨⟨cls2, dd2, data2, sl2⟩, ho2, hc2, n2, hd2⟩ := id hb
  simp only at hc hd hc2 hd2
  subst hc hd hc2 hd2
  exact concat_meets ⟨_, ho, rfl⟩ ⟨_, ho2, rfl⟩ noFill_tuple_add seq_tuple_add PySem.F.slot_tuple_add PySem.F.entry_tuple_add (PySem.F.args_tuple_add_2 _ _)
      (tuple_addW0 t b #[] ws.toArray n n2 dd dd2 sl sl2 (by simp)) ⟨ho, ho2, h1⟩
noncomputable def rCat0 (K : PySem.W.Frag) : R2 := fun x y H Q => ∃ a b ys, x = .ref a ∧ y = .ref b ∧ SqT K H a [] ∧ SqT K H b ys ∧ Q (.ref b) H
theorem op_cat0 : OpR X (binaryOp .Add) (rCat0 X.K) := by
  intro pins s σ H x y v u Q I rx ry h
  obtain ⟨a, b, ys, rfl, rfl, ha, hb, q⟩ := h
  cases rx
  cases ry
  obtain ⟨its, r1, p1, _⟩ := I.tuple ha
  obtain ⟨its2, r2, p2, _⟩ := I.tuple hb
  cases r1
  exact hue_cat0 p1 p2 ⟨.ref b, H, I, rfl, q⟩
theorem op_catA : OpR X (binaryOp .Add) (fun x y H Q => rCatT X.K x y H Q ∨ rCat0 X.K x y H Q) := op_catT.or op_cat0
end
section
variable {prog : Program} {w : World} {A : Around} {E : Value → Shared → Prop} {s : Shared}
end
section
variable {X : Cx}
end
end L2
set_option Elab.async false
set_option linter.all false
set_option maxRecDepth 100000
set_option maxHeartbeats 4000000
namespace L2
open PySem PySem.Spec PyProof.Rows
theorem b_set : bootBuiltins "set" = some (.type "set") := by decide +kernel
theorem b_lenS : bootBuiltins "len" = some (.builtin "len") := by decide +kernel
section
variable {X : Cx}
noncomputable def tLenSet (K : PySem.W.Frag) (te : TE) : TE := fun σ H Q => te σ H fun x H1 => ∃ (p : Addr) (ns : List Int), x = .ref p ∧ SqL K H1 p (ns.map V.int) ∧ ns.length + 1 < scanBound ∧ Q (.int (firstMet (fun i => ns.getD i 0) ns.length).length) H1
theorem pe_lenset {e : Expr} {te : TE} {p1 p2 pos1 pos2 : Pos} (hc : X.calm = true) (hl : Gl X "len") (hml : X.mg "len" = none) (hs : Gl X "set") (hms : X.mg "set" = none) (he : PE X e te)
    (h1 : starEach [e] X.env = (false, eval e X.env) :: starEach [] X.env := by rfl)
    (h2 : starEach [.Call (.Name "set" p2) [e] [] pos2] X.env = (false, eval (.Call (.Name "set" p2) [e] [] pos2) X.env) :: starEach [] X.env := by rfl)
    (h3 : (backTo pos1 (starEach [] X.env)).any (·.1) = false := by rfl) (h4 : (backTo pos2 (starEach [] X.env)).any (·.1) = false := by rfl) :
    PE X (.Call (.Name "len" p1) [.Call (.Name "set" p2) [e] [] pos2] [] pos1) (tLenSet X.K te) := by
  intro pins s σ H Q I h
  refine wpAny_Call_Name_kw (ld_blt I hl hml b_lenS ?_ (by decide) (by decide))
  refine PyProof.Rows.callWith_builtin1 ?_ h2 h3
  rw [h2]
  show wpAny _ _ (spliced ((false, eval (.Call (.Name "set" p2) [e] [] pos2) X.env) :: backTo pos1 (starEach [] X.env))) _ _ s
  refine Calls.spliced_cons ?_
  refine wpAny_Call_Name_kw (ld_blt I hs hms b_set ?_ (by decide) (by decide))
  refine PyProof.Rows.callWith_type1 ?_ h1 h4
  rw [h1]
  show wpAny _ _ (spliced ((false, eval e X.env) :: backTo pos2 (starEach [] X.env))) _ _ s
  refine Calls.spliced_cons (thn (he pins s σ H _ I h) fun u s1 ⟨x, H1, I1, rx, p, ns, ex, hq, hb, q1⟩ => Calls.spliced_nil ?_)
  subst ex
  cases rx
  obtain ⟨its, r', pl, hz⟩ := I1.list hq
  have hlen := r'.length
  rw [List.length_map] at hlen
  refine call_set_list (items := its.toArray) (ns := ns) (I1.ok.hd hc) pl.isList (by simpa using vals_intsAre r') (by simp only [List.size_toArray]; omega) fun h' tk hS hk => ?_
  refine Calls.spliced_nil ?_
  have I2 : Inv X pins σ H1 { s1 with heap := h', toks := tk } := I1.kept fun b o e => hk b o (Heap.lt_size e) e
  obtain ⟨o, es, ep, t, ho, hex, hd, _, _, hbb, hf, hn⟩ := hS
  refine call_len_set (s := { s1 with heap := h', toks := tk }) ho hex hd hf (by unfold scanBound at hbb; omega) ?_
  refine ⟨.int _, H1, I2.tok _, ⟨_, rfl⟩, ?_⟩
  rw [hn]
  simp only [List.size_toArray]
  rw [← hlen]
  exact q1
end
section
variable {prog : Program} {w : World} {A : Around} {E : Value → Shared → Prop} {s : Shared}
end
section
variable {X : Cx}
end
section
variable {prog : Program} {w : World} {κ : Type} [DecidableEq κ] {knd : HeapKind prog w κ} {A : Around} {E : Value → Shared → Prop} {s : Shared}
end
section
variable {X : Cx}
end
end L2
set_option Elab.async false
set_option linter.all false
set_option maxRecDepth 100000
set_option maxHeartbeats 4000000
namespace L2
open PySem PySem.Spec PyProof.Rows
noncomputable def Up (xs : Array Nat) : Prop := ∀ i j (hi : i < xs.size) (hj : j < xs.size), i < j → xs[i] < xs[j]
structure Tab (w : World) (t : SetTable) : Prop where
  up : Up t.place
  no : t.dummies = #[]
  led : t.led = !w.params.followText "set-order"
noncomputable def SetX (prog : Program) (w : World) (h : Heap) (a : Addr) (L : List Int) : Prop :=
  ∃ o es ep t, h.get? a = some o ∧ o.ExactSet ∧ o.data = .set es ep t ∧ ElemsOf (intKind prog w) es.toList ∧ es.size < scanBound ∧ t.fits es.size = true ∧ Tab w t ∧ (es.toList.map fun e => numOf e.2).Perm L
section
variable {prog : Program} {w : World} {A : Around} {E : Value → Shared → Prop} {s : Shared}
theorem SetX.keep {h h' : Heap} {a : Addr} {L : List Int} (x : SetX prog w h a L) (k : ∀ o, h.get? a = some o → h'.get? a = some o) : SetX prog w h' a L := by
  obtain ⟨o, es, ep, t, ho, r⟩ := x
  exact ⟨o, es, ep, t, k o ho, r⟩
theorem int_num {k : Int} {v : Value} (h : (intKind prog w).is k v = true) : numOf v = k := by
  obtain ⟨t, rfl⟩ := Value.isInt_shape (k := k) (v := v) h
  rfl
end
section
variable {prog : Program} {w : World} {A : Around} {R : Result → Shared → Prop} {I : Addr} {fp wr : List Addr} {G : Array GenState → Array GenState → Prop} {n : Nat} {P : Nat → Value → Prop} {St : Nat → Shared → Prop}
end
section
variable {prog : Program} {w : World} {A : Around} {E : Value → Shared → Prop} {s : Shared}
noncomputable abbrev set0 (w : World) : Obj := { cls := .type "set", dict := none, data := .set #[] 0 (.fresh 0 0 (!w.params.followText "set-order")) }
end
end L2
set_option Elab.async false
set_option linter.all false
set_option maxRecDepth 100000
set_option maxHeartbeats 4000000
namespace L2
open PySem PySem.Spec PyProof.Rows
namespace SiF
end SiF
section
variable {prog : Program} {w : World} {A : Around} {E : Value → Shared → Prop}
end
end L2
set_option Elab.async false
set_option linter.all false
set_option maxRecDepth 100000
set_option maxHeartbeats 400000
namespace L2
open PySem PySem.Spec PyProof.Rows
noncomputable def SetAt (w : World) (h : Heap) (a : Addr) (es : Array (Int × Value)) (ep : Nat) (t : SetTable) : Prop := ∃ o, h.get? a = some o ∧ o.cls = .type "set" ∧ o.data = .set es ep t ∧ t.fits es.size = true ∧ Tab w t
theorem SetAt.keep {w : World} {h h' : Heap} {a : Addr} {es : Array (Int × Value)} {ep : Nat} {t : SetTable} (x : SetAt w h a es ep t) (k : ∀ o, h.get? a = some o → h'.get? a = some o) : SetAt w h' a es ep t := let ⟨o, e, r⟩ := x; ⟨o, k o e, r⟩
noncomputable def slotAt (t : SetTable) (i : Nat) : Nat := if i = 0 then 0 else t.place.getD (i - 1) 0 + 1
inductive Way (w : World) (h : Heap) (T0 S : Addr) (es : Array (Int × Value)) (ep : Nat) (t : SetTable) (fs : List (Int × Value)) (i : Nat) : Value → Prop where
  | text (hw : w.params.followText "set-order" = true) (hf : fs = (pickOrder (w.params.setOrder S ep) es).toList) : Way w h T0 S es ep t fs i (.int 0 0)
  | table (hw : w.params.followText "set-order" = false) (hd : (!t.plain && decide (es.size > 1)) = false) (hf : fs = es.toList) : Way w h T0 S es ep t fs i (.int (slotAt t i : Nat) 0)
  | drawn (hw : w.params.followText "set-order" = false) (pl : List Nat) (o : Obj) (n : Nat) (ho : h.get? T0 = some o) (hd : o.data = .seq (pl.map fun k => Value.int (k : Nat) 0).toArray n) (hl : pl.length = fs.length)
      (hf : ∀ (k : Nat) p, pl[k]? = some p → es[p]? = fs[k]?) : Way w h T0 S es ep t fs i (.ref T0)
noncomputable def Sit (w : World) (h : Heap) (T0 I S : Addr) (es : Array (Int × Value)) (ep : Nat) (t : SetTable) (fs : List (Int × Value)) (i : Nat) : Prop :=
  ∃ o first, h.get? I = some o ∧ o.cls = .type "set_iterator" ∧ o.data = .fields #[first, .int (i : Nat) 0, .ref S, .int (es.size : Nat) 0, .int (ep : Nat) 0] ∧ Way w h T0 S es ep t fs i first
section
variable {prog : Program} {w : World} {A : Around} {E : Value → Shared → Prop} {s : Shared} {T0 I S : Addr} {es : Array (Int × Value)} {ep : Nat} {t : SetTable} {fs : List (Int × Value)} {i : Nat}
theorem Sit.typeIs (x : Sit w s.heap T0 I S es ep t fs i) : s.TypeIs (.ref I) "set_iterator" := let ⟨o, _, e, c, _⟩ := x; ⟨o, e, c⟩
theorem Sit.keep {h h' : Heap} (x : Sit w h T0 I S es ep t fs i) (k : ∀ b, b = I ∨ b = T0 → ∀ o, h.get? b = some o → h'.get? b = some o) : Sit w h' T0 I S es ep t fs i := by
  obtain ⟨o, first, ho, hc, hd, W⟩ := x
  refine ⟨o, first, k I (.inl rfl) _ ho, hc, hd, ?_⟩
  cases W with
  | text hw hf => exact .text hw hf
  | table hw hp hf => exact .table hw hp hf
  | drawn hw pl oT n hoT hdT hl hf => exact .drawn hw pl oT n (k T0 (.inr rfl) _ hoT) hdT hl hf
end
end L2
set_option Elab.async false
set_option linter.all false
set_option maxRecDepth 100000
set_option maxHeartbeats 800000
namespace L2
open PySem PySem.Spec PyProof.Rows
section
variable {prog : Program} {w : World} {A : Around} {E : Value → Shared → Prop} {s : Shared} {S : Addr} {es : Array (Int × Value)} {ep : Nat} {t : SetTable}
end
section
variable {prog : Program} {w : World} {A : Around} {E : Value → Shared → Prop} {s : Shared}
end
section
variable {X : Cx}
noncomputable def once (ns : List Int) : List Int := firstMet (fun i => ns.getD i 0) ns.length
end
end L2
set_option Elab.async false
set_option linter.all false
set_option maxRecDepth 100000
set_option maxHeartbeats 1000000
namespace L2
open PySem PySem.Spec PyProof.Rows
section
variable {X : Cx}
end
end L2
set_option Elab.async false
set_option linter.all false
set_option maxRecDepth 100000
set_option maxHeartbeats 2000000
namespace L2
open PySem PySem.Spec PyProof.Rows
open PySem.AutoSeq1 (wpAny_loadPart')
open PySem.MeetsSeq PySem.MeetsSeq2 PySem.MeetsSeq3
section
variable {prog : Program} {w : World} {A : Around} {E : Value → Shared → Prop} {s : Shared} {a₀ : Array Keyed}
end
end L2
set_option Elab.async false
set_option linter.all false
set_option maxRecDepth 100000
set_option maxHeartbeats 2000000
namespace L2
open PySem PySem.Spec PyProof.Rows
open PySem.AutoSeq1 (wpAny_loadPart')
section
variable {prog : Program} {w : World} {A : Around} {E : Value → Shared → Prop} {s : Shared}
end
section
variable {X : Cx}
theorem b_any : bootBuiltins "any" = some (.builtin "any") := by decide +kernel
theorem call_anyB (hc : X.calm = true) : CallR X (.builtin "any") (fun xs H Q => ∃ (a : Addr) (bs : List Bool), xs = [.ref a] ∧ SqL X.K H a (bs.map V.bl) ∧ Q (.bl (bs.any id)) H) := by
  intro pins s σ H xs us Q I r h
  obtain ⟨a, bs, rfl, hq, q⟩ := h
  obtain ⟨u, rfl, ru⟩ := vals1 r
  cases ru
  obtain ⟨its, rv, pl, hz⟩ := I.list hq
  have hl := rv.length
  rw [List.length_map] at hl
  refine call_any_walk (wpAny_pyIter_list pl.isList ?_)
  have hlt : a < s.heap.objs.size := by obtain ⟨o, n, e, _⟩ := pl; exact Heap.lt_size e
  refine ⟨s.heap.objs.size, _, _, _, _, _, fun i => bs.getD i false, rfl, Walks.list (by exact I.ok.hd hc) s.heap.objs.size a (Nat.ne_of_lt hlt) its.toArray, ⟨⟨_, Heap.get?_push_size _ rfl, rfl, rfl⟩, pl.isList.push _⟩, ?_, fun h' tk hk => ?_⟩
  · intro i v s' Q' E' hv hQ'
    have hv' : its[i]? = some v := by simpa using hv
    have hi : i < its.length := (List.getElem?_eq_some_iff.mp hv').1
    have hb : (bs.map V.bl)[i]? = some (.bl (bs[i]'(by omega))) := by simp
    obtain ⟨u', eu, ru'⟩ := rv.get hb
    rw [hv'] at eu
    cases eu
    cases ru'
    have hg : bs.getD i false = bs[i]'(by omega) := by simp [List.getD, show i < bs.length by omega]
    have hQ2 : Q' (bs.getD i false) s' := hQ'
    rw [hg] at hQ2
    exact wpAny_truthy_bool hQ2
  · have I1 : Inv X pins σ H { s with heap := h', toks := tk } := I.kept fun b o e => hk b o (by simp; exact Nat.ne_of_lt (Heap.lt_size e)) (Heap.get?_push_of_some _ e)
    refine ⟨.bl _, H, I1, rfl, ?_⟩
    have e : (List.range its.toArray.size).any (fun i => bs.getD i false) = bs.any id := by
      rw [List.size_toArray, ← hl, Bool.eq_iff_iff, List.any_eq_true, List.any_eq_true]
      constructor
      · rintro ⟨j, hj, e⟩
        have hj1 : j < bs.length := List.mem_range.mp hj
        exact ⟨bs[j], List.getElem_mem hj1, by simpa [List.getD, hj1] using e⟩
      · rintro ⟨b, hb, e⟩
        obtain ⟨j, hj, e2⟩ := List.mem_iff_getElem.mp hb
        exact ⟨j, List.mem_range.mpr hj, by simpa [List.getD, hj, e2] using e⟩
    rw [e]
    exact q
end
end L2
set_option Elab.async false
set_option linter.all false
set_option maxRecDepth 100000
set_option maxHeartbeats 1000000
namespace Rf
open PySem L2
noncomputable abbrev QE := SV → Sto → Prop
noncomputable abbrev WE := EnvS → Sto → QE → Prop
noncomputable abbrev WA := EnvS → Sto → (List SV → Sto → Prop) → Prop
noncomputable abbrev WT := EnvS → Sto → (Bool → Sto → Prop) → Prop
noncomputable def Post (K : PySem.W.Frag) (as : List Addr) (H : Hp) (Q : VK) : QE := fun x S' => ∀ as' H' v, Go as H as' H' → Ok K as' H' S' → Rl K as' H' v x → Q v H'
noncomputable def PostA (K : PySem.W.Frag) (as : List Addr) (H : Hp) (Q : List V → Hp → Prop) : List SV → Sto → Prop := fun xs S' => ∀ as' H' vs, Go as H as' H' → Ok K as' H' S' → RlAll K as' H' vs xs → Q vs H'
noncomputable def PostT (K : PySem.W.Frag) (as : List Addr) (H : Hp) (Q : Bool → Hp → Prop) : Bool → Sto → Prop := fun b S' => ∀ as' H', Go as H as' H' → Ok K as' H' S' → Q b H'
noncomputable def lift (K : PySem.W.Frag) (w : WE) : TE := fun σ H Q => ∃ as ρ S, Ok K as H S ∧ EnvOk K as H σ ρ ∧ w ρ S (Post K as H Q)
noncomputable def liftA (K : PySem.W.Frag) (w : WA) : TA := fun σ H Q => ∃ as ρ S, Ok K as H S ∧ EnvOk K as H σ ρ ∧ w ρ S (PostA K as H Q)
noncomputable def liftT (K : PySem.W.Frag) (w : WT) : TT := fun σ H Q => ∃ as ρ S, Ok K as H S ∧ EnvOk K as H σ ρ ∧ w ρ S (PostT K as H Q)
noncomputable def Mono (w : WE) : Prop := ∀ ρ S (P P' : QE), (∀ x S', P x S' → P' x S') → w ρ S P → w ρ S P'
noncomputable def MonoA (w : WA) : Prop := ∀ ρ S (P P' : List SV → Sto → Prop), (∀ x S', P x S' → P' x S') → w ρ S P → w ρ S P'
noncomputable def MonoT (w : WT) : Prop := ∀ ρ S (P P' : Bool → Sto → Prop), (∀ x S', P x S' → P' x S') → w ρ S P → w ρ S P'
theorem pe_via {X : Cx} {e : Expr} {t : TE} (t' : TE) (h : PE X e t) (imp : ∀ σ H Q, t' σ H Q → t σ H Q) : PE X e t' := fun pins s σ H Q I hw => h pins s σ H Q I (imp σ H Q hw)
theorem pt_via {X : Cx} {e : Expr} {t : TT} (t' : TT) (h : PT X e t) (imp : ∀ σ H Q, t' σ H Q → t σ H Q) : PT X e t' := fun pins s σ H Q I hw => h pins s σ H Q I (imp σ H Q hw)
theorem pa_via {X : Cx} {e : List Expr} {t : TA} (t' : TA) (h : PA X e t) (imp : ∀ σ H Q, t' σ H Q → t σ H Q) : PA X e t' := fun p pins s σ H Q I hw => h p pins s σ H Q I (imp σ H Q hw)
section
variable {K : PySem.W.Frag} {as as1 as2 : List Addr} {H H1 H2 : Hp}
theorem Post.mono {Q : VK} {x : SV} {S : Sto} (h : Post K as H Q x S) (g : Go as H as1 H1) : Post K as1 H1 Q x S := fun as' H' v g' => h as' H' v (g.trans g')
end
noncomputable abbrev S2 := SV → SV → Sto → QE → Prop
noncomputable abbrev S1 := SV → Sto → QE → Prop
noncomputable abbrev Sn := List SV → Sto → QE → Prop
noncomputable def w2 (s : S2) (a b : WE) : WE := fun ρ S Q => a ρ S fun x S1 => b ρ S1 fun y S2 => s x y S2 Q
noncomputable def w1 (s : S1) (a : WE) : WE := fun ρ S Q => a ρ S fun x S1 => s x S1 Q
noncomputable def wn (s : Sn) (a : WA) : WE := fun ρ S Q => a ρ S fun xs S1 => s xs S1 Q
noncomputable def Mono2 (s : S2) : Prop := ∀ x y S (P P' : QE), (∀ x S', P x S' → P' x S') → s x y S P → s x y S P'
noncomputable def Mono1 (s : S1) : Prop := ∀ x S (P P' : QE), (∀ x S', P x S' → P' x S') → s x S P → s x S P'
noncomputable def MonoN (s : Sn) : Prop := ∀ x S (P P' : QE), (∀ x S', P x S' → P' x S') → s x S P → s x S P'
theorem Mono.two {s : S2} {a b : WE} (hs : Mono2 s) (ha : Mono a) (hb : Mono b) : Mono (w2 s a b) := fun ρ S P P' i h => ha _ _ _ _ (fun _ _ h => hb _ _ _ _ (fun _ _ h => hs _ _ _ _ _ i h) h) h
theorem Mono.one {s : S1} {a : WE} (hs : Mono1 s) (ha : Mono a) : Mono (w1 s a) := fun ρ S P P' i h => ha _ _ _ _ (fun _ _ h => hs _ _ _ _ i h) h
theorem Mono.n {s : Sn} {a : WA} (hs : MonoN s) (ha : MonoA a) : Mono (wn s a) := fun ρ S P P' i h => ha _ _ _ _ (fun _ _ h => hs _ _ _ _ i h) h
noncomputable def Sim2 (K : PySem.W.Frag) (s : S2) (r : R2) : Prop := ∀ as H S x y v u Q, Ok K as H S → Rl K as H v x → Rl K as H u y → s x y S (Post K as H Q) → r v u H Q
noncomputable def Sim1 (K : PySem.W.Frag) (s : S1) (r : V → Hp → VK → Prop) : Prop := ∀ as H S x v Q, Ok K as H S → Rl K as H v x → s x S (Post K as H Q) → r v H Q
noncomputable def SimN (K : PySem.W.Frag) (s : Sn) (r : List V → Hp → VK → Prop) : Prop := ∀ as H S xs vs Q, Ok K as H S → RlAll K as H vs xs → s xs S (Post K as H Q) → r vs H Q
theorem bin_via {K : PySem.W.Frag} {s : S2} {r : R2} {wa wb : WE} (sim : Sim2 K s r) (ms : Mono2 s) (ma : Mono wa) (mb : Mono wb) : ∀ σ H Q, lift K (w2 s wa wb) σ H Q → tOp r (lift K wa) (lift K wb) σ H Q := by
  rintro σ H Q ⟨as, ρ, S, ok, en, h⟩
  refine ⟨as, ρ, S, ok, en, ma _ _ _ _ (fun x S1 hb as1 H1 v g1 ok1 rv => ?_) h⟩
  refine ⟨as1, ρ, S1, ok1, en.mono g1.pre (g1.ku ok), mb _ _ _ _ (fun y S2 hs as2 H2 u g2 ok2 ru => ?_) hb⟩
  exact sim as2 H2 S2 x y v u Q ok2 (Rl.mono g2.pre (g2.ku ok1) x v rv) ru (ms _ _ _ _ _ (fun z S3 hz => hz.mono (g1.trans g2)) hs)
theorem un_via {K : PySem.W.Frag} {s : S1} {r : V → Hp → VK → Prop} {wa : WE} (sim : Sim1 K s r) (ms : Mono1 s) (ma : Mono wa) : ∀ σ H Q, lift K (w1 s wa) σ H Q → tUn r (lift K wa) σ H Q := by
  rintro σ H Q ⟨as, ρ, S, ok, en, h⟩
  refine ⟨as, ρ, S, ok, en, ma _ _ _ _ (fun x S1 hs as1 H1 v g1 ok1 rv => ?_) h⟩
  exact sim as1 H1 S1 x v Q ok1 rv (ms _ _ _ _ (fun z S3 hz => hz.mono g1) hs)
theorem n_via {K : PySem.W.Frag} {s : Sn} {r : List V → Hp → VK → Prop} {wa : WA} (sim : SimN K s r) (ms : MonoN s) (ma : MonoA wa) : ∀ σ H Q, lift K (wn s wa) σ H Q → tCB r (liftA K wa) σ H Q := by
  rintro σ H Q ⟨as, ρ, S, ok, en, h⟩
  refine ⟨as, ρ, S, ok, en, ma _ _ _ _ (fun x S1 hs as1 H1 v g1 ok1 rv => ?_) h⟩
  exact sim as1 H1 S1 x v Q ok1 rv (ms _ _ _ _ (fun z S3 hz => hz.mono g1) hs)
noncomputable def waNil : WA := fun _ S Q => Q [] S
noncomputable def waCons (a : WE) (b : WA) : WA := fun ρ S Q => a ρ S fun x S1 => b ρ S1 fun xs S2 => Q (x :: xs) S2
theorem MonoA.nil : MonoA waNil := fun _ _ _ _ i h => i _ _ h
theorem MonoA.cons {a : WE} {b : WA} (ha : Mono a) (hb : MonoA b) : MonoA (waCons a b) := fun _ _ _ _ i h => ha _ _ _ _ (fun _ _ h => hb _ _ _ _ (fun _ _ h => i _ _ h) h) h
theorem pa_nil' {X : Cx} {K : PySem.W.Frag} : PA X [] (liftA K waNil) := pa_via _ pa_nil fun σ H Q ⟨as, ρ, S, ok, en, h⟩ => h as H [] (Go.refl _ _) ok .nil
theorem cons_via {K : PySem.W.Frag} {a : WE} {b : WA} (ma : Mono a) (mb : MonoA b) : ∀ σ H Q, liftA K (waCons a b) σ H Q → tCons (lift K a) (liftA K b) σ H Q := by
  rintro σ H Q ⟨as, ρ, S, ok, en, h⟩
  refine ⟨as, ρ, S, ok, en, ma _ _ _ _ (fun x S1 hs as1 H1 v g1 ok1 rv => ?_) h⟩
  refine ⟨as1, ρ, S1, ok1, en.mono g1.pre (g1.ku ok), mb _ _ _ _ (fun xs S2 hq as2 H2 vs g2 ok2 rs => ?_) hs⟩
  exact hq as2 H2 _ (g1.trans g2) ok2 (.cons (Rl.mono g2.pre (g2.ku ok1) x v rv) rs)
theorem pa_cons' {X : Cx} {K : PySem.W.Frag} {e : Expr} {es : List Expr} {a : WE} {b : WA} (ma : Mono a) (mb : MonoA b) (h1 : PE X e (lift K a)) (h2 : PA X es (liftA K b)) (hs : starEach (e :: es) X.env = (false, eval e X.env) :: starEach es X.env) : PA X (e :: es) (liftA K (waCons a b)) := pa_via _ (pa_cons h1 h2 hs) (cons_via ma mb)
noncomputable def wVar (i : Nat) : WE := fun ρ S Q => ∃ x, ρ[i]? = some (some x) ∧ Q x S
noncomputable def wC (x : SV) : WE := fun _ S Q => Q x S
theorem Mono.var {i : Nat} : Mono (wVar i) := fun _ _ _ _ i ⟨x, a, b⟩ => ⟨x, a, i _ _ b⟩
theorem Mono.c {x : SV} : Mono (wC x) := fun _ _ _ _ i h => i _ _ h
theorem var_via {K : PySem.W.Frag} {i : Nat} : ∀ σ H Q, lift K (wVar i) σ H Q → tVar i σ H Q := fun σ H Q ⟨as, ρ, S, ok, en, x, e, h⟩ => let ⟨v, ev, rv⟩ := en.2 i x e; ⟨v, ev, h as H v (Go.refl _ _) ok rv⟩
theorem c_via {K : PySem.W.Frag} {x : SV} {v : V} (hx : ∀ as H, Rl K as H v x) : ∀ σ H Q, lift K (wC x) σ H Q → tC v σ H Q := fun σ H Q ⟨as, ρ, S, ok, en, h⟩ => h as H v (Go.refl _ _) ok (hx as H)
noncomputable def big : Nat := 100000
theorem big_line {n : Nat} (h : n ≤ big) : n ≤ sizeLine := Nat.le_trans h (by decide)
theorem big_lt {n : Nat} (h : n < big) : n < sizeLine := Nat.lt_of_lt_of_le h (by decide)
noncomputable def sTup : Sn := fun xs S Q => xs.length ≤ big ∧ Q (.tup xs) S
noncomputable def sLst : Sn := fun xs S Q => xs.length ≤ big ∧ Q (.loc S.length) (S ++ [.lst xs])
theorem MonoN.tup : MonoN sTup := fun _ _ _ _ i h => ⟨h.1, i _ _ h.2⟩
theorem MonoN.lst : MonoN sLst := fun _ _ _ _ i h => ⟨h.1, i _ _ h.2⟩
theorem rl_new {K : PySem.W.Frag} {as : List Addr} {H : Hp} {S : Sto} {p : Addr} (ok : Ok K as H S) : Rl K (as ++ [p]) (upd H p (.lst vs)) (.ref p) (.loc S.length) := rl_loc.mpr ⟨p, by rw [← ok.len, List.getElem?_concat_length], rfl⟩
theorem post_lst {K : PySem.W.Frag} {as : List Addr} {H : Hp} {S : Sto} {Q : VK} {xs : List SV} {vs : List V} (ok : Ok K as H S) (r : RlAll K as H vs xs) (h : Post K as H Q (.loc S.length) (S ++ [.lst xs])) : ∀ p, H p = none → Q (.ref p) (upd H p (.lst vs)) := fun p hp =>
  h (as ++ [p]) _ (.ref p) (Go.push hp) (ok.push hp r) (rl_new ok)
theorem post_tup {K : PySem.W.Frag} {as : List Addr} {H : Hp} {S : Sto} {Q : VK} {xs : List SV} {vs : List V} (ok : Ok K as H S) (r : RlAll K as H vs xs) (h : Post K as H Q (.tup xs) S) : ∀ p, H p = none → Q (.ref p) (upd H p (.tup vs)) := fun p hp =>
  h as _ (.ref p) (Go.new hp) (ok.new hp) (rl_tup.mpr ⟨p, vs, rfl, upd_same, RlAll.mono (List.prefix_refl _) (keepU_new hp) xs vs r⟩)
theorem tup_via {K : PySem.W.Frag} {wa : WA} (ma : MonoA wa) : ∀ σ H Q, lift K (wn sTup wa) σ H Q → tTup (liftA K wa) σ H Q := by
  rintro σ H Q ⟨as, ρ, S, ok, en, h⟩
  refine ⟨as, ρ, S, ok, en, ma _ _ _ _ (fun xs S1 hs as1 H1 vs g1 ok1 rv => ?_) h⟩
  exact ⟨by rw [rv.length]; exact big_line hs.1, post_tup ok1 rv (hs.2.mono g1)⟩
theorem lst_via {K : PySem.W.Frag} {wa : WA} (ma : MonoA wa) : ∀ σ H Q, lift K (wn sLst wa) σ H Q → tLst (liftA K wa) σ H Q := by
  rintro σ H Q ⟨as, ρ, S, ok, en, h⟩
  refine ⟨as, ρ, S, ok, en, ma _ _ _ _ (fun xs S1 hs as1 H1 vs g1 ok1 rv => ?_) h⟩
  exact ⟨by rw [rv.length]; exact big_line hs.1, post_lst ok1 rv (hs.2.mono g1)⟩
end Rf
set_option Elab.async false
set_option linter.all false
set_option maxRecDepth 100000
set_option maxHeartbeats 4000000
namespace L2
open PySem PySem.Spec PyProof.Rows
section
variable {prog : Program} {w : World} {A : Around} {E : Value → Shared → Prop} {s : Shared}
theorem SetX.kind {h : Heap} {a : Addr} {L : List Int} (x : SetX prog w h a L) : h.SetOf (intKind prog w) a (fun k => decide (k ∈ L)) L.length := by
  obtain ⟨o, es, ep, t, ho, hx, hd, hel, hb, hf, hT, hp⟩ := x
  refine ⟨o, es, ep, t, ho, hx, hd, hel, fun k => ?_, hb, hf, by rw [← hp.length_eq]; simp⟩
  rw [decide_eq_true_eq, ← hp.mem_iff, List.mem_map]
  constructor
  · rintro ⟨e, he, rfl⟩
    obtain ⟨⟨k, hk, _⟩, _⟩ := hel e he
    exact ⟨e, he, by rw [int_num hk]; exact hk⟩
  · rintro ⟨e, he, hk⟩
    exact ⟨e, he, int_num hk⟩
end
section
variable {X : Cx}
noncomputable def once' (ns : List Int) : List Int := firstMet (fun i => ns.getD i 0) ns.length
theorem once_mem (ns : List Int) (k : Int) : k ∈ once' ns ↔ k ∈ ns := by
  have e := firstMet_any (fun i => ns.getD i 0) ns.length k
  have e2 : (List.range ns.length).map (fun i => ns.getD i 0) = ns := by
    apply List.ext_getElem
    · simp
    · intro i h1 h2
      simp [List.getElem?_eq_getElem h2]
  rw [e2] at e
  have h1 : (once' ns).any (· == k) = true ↔ k ∈ once' ns := by simp
  have h2 : ns.any (· == k) = true ↔ k ∈ ns := by simp
  rw [← h1, ← h2]
  unfold once'
  rw [e]
theorem op_inSet : OpR X (compareOp .In) (fun x y H Q => ∃ (k : Int) (p : Addr) (S : Int → Bool) (n : Nat), x = .int k ∧ y = .ref p ∧ H p = some (.set S n) ∧ Q (.bl (S k)) H) := by
  intro pins s σ H x y v u Q I rx ry h
  obtain ⟨k, p, S, n, rfl, rfl, hp, q⟩ := h
  obtain ⟨t, rfl⟩ := rx
  cases ry
  have hS : s.heap.SetOf (intKind X.prog X.w) p S n := I.hok p _ hp
  exact wpAny_inSet_of (k := k) (intKind_is _ _ _ _) rfl hS ⟨.bl _, H, I.tok _, rfl, q⟩
end
end L2
set_option Elab.async false
set_option linter.all false
set_option maxRecDepth 100000
set_option maxHeartbeats 4000000
namespace L2
open PySem PySem.Spec PyProof.Rows
section
variable {X : Cx}
theorem call_set0 : CallR X (.type "set") (fun xs H Q => xs = [] ∧ ∀ l, H l = none → Q (.ref l) (upd H l (.set (fun _ => false) 0))) := by
  intro pins s σ H xs us Q I r h
  obtain ⟨rfl, q⟩ := h
  cases r
  refine call_set_0 fun led => ?_
  refine ⟨.ref s.heap.objs.size, _, I.laid (t' := s.toks) (o := .set (fun _ => false) 0) (fun b o e => Heap.get?_push_of_some _ e) (Nat.le_refl _) ?_, rfl, q _ (I.hok.fresh (Nat.le_refl _))⟩
  exact (setObjOf_fresh led).setOf (Heap.get?_push_size _ rfl) (by decide)
noncomputable def rSAdd : V → List V → Hp → VK → Prop := fun x vs H Q => ∃ (l : Addr) (S : Int → Bool) (n : Nat) (k : Int), x = .ref l ∧ vs = [.int k] ∧ H l = some (.set S n) ∧ n ≤ 900 ∧ Q .non (upd H l (.set (fun j => S j || decide (j = k)) (if S k then n else n + 1)))
theorem mt_add : MtM X "set.add" rSAdd := by
  intro pins s σ H x vs v us Q I rx rv h
  obtain ⟨l, S, n, k, rfl, rfl, hp, hn, q⟩ := h
  cases rx
  obtain ⟨u, rfl, ru⟩ := rv.one
  obtain ⟨t, rfl⟩ := ru
  have hS : s.heap.SetOf (intKind X.prog X.w) l S n := I.hok l _ hp
  refine call_set_add (k := k) (intKind_is _ _ _ _) rfl hS (by show n + 1 < 4096; omega) fun h' hsb hS' => ?_
  refine ⟨.non, _, I.write (x := l) (e := l) (t' := s.toks + 1) (by rw [hp]; trivial) (.inl rfl) (fun b u hb e => (hsb.2 b hb).trans e) (let ⟨o, _, _, _, ho, _⟩ := hS'; ⟨o, ho⟩) ?_, rfl, q⟩
  exact hS'
end
end L2
set_option Elab.async false
set_option linter.all false
set_option maxRecDepth 100000
set_option maxHeartbeats 4000000
namespace L2
open PySem PySem.Spec PyProof.Rows
theorem Vals.rev : ∀ {xs : List V} {us : List Value}, Vals xs us → Vals xs.reverse us.reverse
  | _, _, .nil => .nil
  | _, _, .cons r rr => by
    rw [List.reverse_cons, List.reverse_cons]
    exact (Vals.rev rr).append (.cons r .nil)
section
variable {X : Cx} {e st : Expr} {te : TE} {tp : TO} {pos p2 : Pos}
noncomputable def tRev (K : PySem.W.Frag) (te : TE) (tp : TO) : TE := fun σ H Q => te σ H fun x H1 => tp σ H1 fun u H2 => u = some (-1) ∧ ∃ a xs, x = .ref a ∧ SqL K H2 a xs ∧ ∀ p, H2 p = none → Q (.ref p) (upd H2 p (.lst xs.reverse))
theorem pe_rev (he : PE X e te) (hp : PO X (some st) tp) : PE X (.Subscript e (.Slice none none (some st) p2) pos) (tRev X.K te tp) := by
  intro pins s σ H Q I h
  refine Subscript_ (thn (he pins s σ H _ I h) fun v s1 ⟨x, H1, I1, r1, q1⟩ => ?_)
  refine wpAny_Slice ?_
  rw [evalPart_none]
  refine wpAny_pure (wpAny_pure ?_)
  refine thn (hp pins s1 σ H1 _ I1 q1) fun vu s3 ⟨u, H3, I3, pu, q3⟩ => ?_
  obtain ⟨rfl, a, xs, rfl, hx, q⟩ := q3
  cases r1
  have I4 : Inv X pins σ H3 { s3 with heap := s3.heap.push { cls := .type "slice", data := .fields #[.none, .none, vu] } } := I3.kept (t' := s3.toks) fun b ob q => Heap.get?_push_of_some _ q
  show wpAny (model X.prog X.w) X.A (subscriptTail e (.Slice none none (some st) p2) (.ref a) (.ref s3.heap.objs.size)) (EP X pins σ Q) X.xe { s3 with heap := s3.heap.push { cls := .type "slice", data := .fields #[.none, .none, vu] } }
  obtain ⟨its, r, ht, hz⟩ := I4.list hx
  have hlen := r.length
  refine tail_any (ops := [.ref a, .ref s3.heap.objs.size]) ht.isList.typeIs slot_list_getitem.lookup ?_ (by with_unfolding_all rfl)
  refine wpAny_getItem_list_slice ht.isList (Heap.IsSliceOf.new ..) .none .none pu (by decide) ?_ (by rw [List.size_toArray] <;> omega)
  rw [PySem.W.krv_pick]
  refine ⟨.ref _, _, I4.laid (t' := s3.toks) (o := .lst xs.reverse) (fun b ob q => Heap.get?_push_of_some _ q) (Nat.le_refl _) ?_, rfl, q _ (I4.hok.fresh (Nat.le_refl _))⟩
  exact ⟨by rw [List.length_reverse]; exact hz, _, 0, r.rev, Heap.get?_push_size _ rfl⟩
end
end L2
set_option Elab.async false
set_option linter.all false
set_option maxRecDepth 100000
set_option maxHeartbeats 4000000
namespace PySem
open PyProof.Rows Builtin
theorem hue_noFill_tuple_mul : fillsNumberSlot (.type "tuple") "mul" = pure false :=
  fillsNumberSlot_seq (id := "tuple.__mul__") (r := some (.builtin "tuple.__rmul__")) F.slot_tuple_mul.lookup (by decide +kernel) F.slot_tuple_rmul.lookup (by decide +kernel)
theorem hue_repeat_tuple : seqRepeat? (.type "tuple") = pure (some (.builtin "tuple.__mul__")) := by
  unfold seqRepeat?
  rw [seqSlot_of (T := "tuple") (name := "__mul__") (id := "tuple.__mul__") F.slot_tuple_mul.lookup (by decide +kernel), seqSlot_of (T := "tuple") (name := "__rmul__") (id := "tuple.__rmul__") F.slot_tuple_rmul.lookup (by decide +kernel)]
  rfl
theorem hue_rmul_tuple (a : Int) (t : Tok) (l : Addr) (items : Array Value) (n : Nat) (dd : Option Addr) (sl : Array (Option Value)) :
    Meets (Builtin.«int.__rmul__» ⟨[.int a t, .ref l], []⟩) (fun _ R s => s.heap.get? l = some { cls := .type "tuple", dict := dd, data := .seq items n, slots := sl } ∧ R (.ok (.ret Value.notImplemented)) s) :=
  .of_wp fun prog w A R s h => by obtain ⟨hp, g, d, tk, os⟩ := s; obtain ⟨hl, h⟩ := h; wp_walk; exact ⟨_, rfl, h⟩
theorem hue_mulE (l : Addr) (items : Array Value) (n : Nat) (dd : Option Addr) (sl : Array (Option Value)) (x : Int) (u : Tok) (hc0 : ¬ (decide (x < -(2 ^ 63)) || decide (x ≥ 2 ^ 63)) = true) (hc1 : (items.isEmpty || x == 1) = true) :
    Meets (Builtin.«tuple.__mul__» ⟨[.ref l, .int x u], []⟩) (fun _ R s => s.heap.get? l = some { cls := .type "tuple", dict := dd, data := .seq items n, slots := sl } ∧ R (.ok (.ret (Value.ref l))) { s with heap := s.heap, toks := s.toks }) :=
  .of_wp fun prog w A R s h => by
    obtain ⟨hp, g, d, tk, os⟩ := s; obtain ⟨hl, h⟩ := h; have f1 := AutoSeq1.idx_int; have f2 := AutoSeq1.sub_tuple_tuple
    wp_walk using AutoSeq1.wpAny_loadPart' hl
    rw [if_neg hc0]
    wp_walk using AutoSeq1.wpAny_loadPart' hl
    exact ⟨_, rfl, h⟩
theorem hue_mulN (l : Addr) (items : Array Value) (n : Nat) (dd : Option Addr) (sl : Array (Option Value)) (x : Int) (u : Tok) (hc0 : ¬ (decide (x < -(2 ^ 63)) || decide (x ≥ 2 ^ 63)) = true) (hc1 : ¬ (items.isEmpty || x == 1) = true) (hc2 : ¬ (decide (x ≤ 0) || items.isEmpty) = true)
    (hc3 : ¬ (items.size * x > (2 ^ 63 - 1) / 8)) (hc4 : ¬ Builtin.Tuple.tupleTooMany (items.size * x) = true) (hc5 : ¬ (List.foldl (fun x1 x2 => x1 ++ x2) #[] (List.replicate x.toNat items)).size > sizeLine) :
    Meets (Builtin.«tuple.__mul__» ⟨[.ref l, .int x u], []⟩) (fun _ R s => s.heap.get? l = some { cls := .type "tuple", dict := dd, data := .seq items n, slots := sl } ∧ R (.ok (.ret (Value.ref s.heap.objs.size))) { s with heap := s.heap.push { cls := Value.type "tuple", data := Data.seq ((List.replicate x.toNat items).foldl (· ++ ·) #[]) }, toks := s.toks }) :=
  .of_wp fun prog w A R s h => by
    obtain ⟨hp, g, d, tk, os⟩ := s; obtain ⟨hl, h⟩ := h; have f1 := AutoSeq1.idx_int; have f2 := AutoSeq1.sub_tuple_tuple
    wp_walk using AutoSeq1.wpAny_loadPart' hl
    rw [if_neg hc0]
    wp_walk using AutoSeq1.wpAny_loadPart' hl
    rw [if_neg hc3]
    wp_walk using AutoSeq1.wpAny_loadPart' hl
    exact ⟨_, rfl, h⟩
end PySem
namespace L2
open PySem PySem.Spec PyProof.Rows
section
variable {X : Cx}
noncomputable def rRepT (K : PySem.W.Frag) : R2 := fun x y H Q => ∃ a k xs, x = .ref a ∧ y = .int k ∧ SqT K H a xs ∧ 2 ≤ k ∧ k ≤ 1000 ∧ xs.length * k.toNat ≤ sizeLine ∧
  (xs = [] → Q (.ref a) H) ∧ (xs ≠ [] → ∀ p, H p = none → Q (.ref p) (upd H p (.tup (List.replicate k.toNat xs).flatten)))
theorem op_repT : OpR X (binaryOp .Mult) (rRepT X.K) := by
  intro pins s σ H x y v u Q I rx ry h
  obtain ⟨l, k, xs, rfl, rfl, hH, h1, h2, hz, q1, q2⟩ := h
  cases rx
  obtain ⟨t, rfl⟩ := ry
  obtain ⟨its, r, p1, _⟩ := I.tuple hH
  obtain ⟨⟨cls, dd, data, sl⟩, ho, hc, n, hd⟩ := id p1
  simp only at hc hd
  subst hc hd
  have hc0 : ¬ (decide (k < -(2 ^ 63)) || decide (k ≥ 2 ^ 63)) = true := by simp; omega
  refine wpAny_binaryOp_repeat_ref (T := "tuple") (U := "int") (by decide) ⟨_, ho, rfl⟩ (fun s' => typeIs_int s' k t) hue_noFill_tuple_mul F.fills_int_mul F.slot_int_rmul hue_repeat_tuple F.slot_int_index.lookup
    (call_meets F.slot_int_rmul (typeIs_int s k t) F.entry_int_rmul (F.args_int_rmul_2 _ _) (hue_rmul_tuple k t l its.toArray n dd sl) ⟨ho, rfl, ⟨_, ho, rfl⟩, ?_⟩)
  by_cases hx : xs = []
  · have hi : its = [] := r.nil_iff.mpr hx
    exact call_meets F.slot_tuple_mul ⟨_, ho, rfl⟩ F.entry_tuple_mul (F.args_tuple_mul_2 _ _) (hue_mulE l its.toArray n dd sl k t hc0 (by simp [hi])) ⟨ho, ⟨.ref l, H, I, rfl, q1 hx⟩⟩
  · have hi : its ≠ [] := fun z => hx (r.nil_iff.mp z)
    have hl : xs.length = its.length := r.length
    have hzz : (its.length : Int) * k ≤ (sizeLine : Int) := by
      have : ((xs.length * k.toNat : Nat) : Int) ≤ (sizeLine : Int) := by exact_mod_cast hz
      rw [hl] at this
      push_cast at this
      rwa [Int.toNat_of_nonneg (by omega)] at this
    have hnew : List.foldl (fun x1 x2 => x1 ++ x2) #[] (List.replicate k.toNat its.toArray) = (List.replicate k.toNat its).flatten.toArray := by
      have := foldl_rep its k.toNat []
      rw [List.nil_append] at this
      exact this
    refine call_meets F.slot_tuple_mul ⟨_, ho, rfl⟩ F.entry_tuple_mul (F.args_tuple_mul_2 _ _) (hue_mulN l its.toArray n dd sl k t hc0 (by simp [hi]; omega) (by simp [hi]; omega) ?_ ?_ (by
      rw [AutoSeq1.size_joined, show its.toArray.size = xs.length by rw [List.size_toArray, hl], Nat.mul_comm]
      simp only [List.size_toArray, List.length_nil]
      omega)) ⟨ho, ?_⟩
    · have : (sizeLine : Int) ≤ (2 ^ 63 - 1) / 8 := by decide
      rw [List.size_toArray]
      omega
    · unfold Builtin.Tuple.tupleTooMany
      rw [List.size_toArray]
      simp; omega
    · rw [hnew]
      refine ⟨.ref s.heap.objs.size, _, I.laid (t' := s.toks) (o := .tup (List.replicate k.toNat xs).flatten) (fun b ob q => Heap.get?_push_of_some _ q) (Nat.le_refl _) ?_, rfl, q2 hx _ (I.hok.fresh (Nat.le_refl _))⟩
      exact ⟨by rw [len_rep, Nat.mul_comm]; exact hz, _, r.rep k.toNat, IsTup.new _ _⟩
end
end L2
set_option Elab.async false
set_option linter.all false
set_option maxRecDepth 100000
set_option maxHeartbeats 1000000
namespace Rf
open PySem L2
noncomputable def flatS : SV → Bool
  | .non => true | .bl _ => true | .int _ => true | .str _ => true | _ => false
noncomputable def toV : SV → V
  | .non => .non | .bl b => .bl b | .int i => .int i | .str x => .str x | _ => .non
noncomputable def eqF : SV → SV → Bool
  | .non, .non => true
  | .bl a, .bl b => a == b
  | .bl a, .int b => (if a then 1 else 0) == b
  | .int a, .bl b => a == (if b then 1 else 0)
  | .int a, .int b => a == b
  | .str a, .str b => a == b
  | _, _ => false
noncomputable def eqSs (xs ys : List SV) : Bool := xs.length == ys.length && (xs.zip ys).all fun p => eqF p.1 p.2
noncomputable def inS (x : SV) (xs : List SV) : Bool := xs.any fun y => eqF y x
section
variable {K : PySem.W.Frag} {as : List Addr} {H : Hp}
theorem flat_rl {x : SV} {v : V} (f : flatS x = true) (r : Rl K as H v x) : v = toV x := by
  cases x with
  | non => exact rl_non.mp r
  | bl _ => exact rl_bl.mp r
  | int _ => exact rl_int.mp r
  | str _ => exact rl_str.mp r
  | _ => cases f
theorem flat_all : ∀ {xs : List SV} {vs : List V}, xs.all flatS = true → RlAll K as H vs xs → vs = xs.map toV
  | [], _, _, r => rla_nil.mp r
  | x :: xs, _, f, r => by
    rw [List.all_cons, Bool.and_eq_true] at f
    obtain ⟨v, vs, rfl, r1, r2⟩ := rla_cons.mp r
    rw [flat_rl f.1 r1, flat_all f.2 r2]; rfl
theorem flatV_to {x : SV} (f : flatS x = true) : flatV (toV x) = true := by cases x <;> first | rfl | cases f
theorem flatV_all {xs : List SV} (f : xs.all flatS = true) : (xs.map toV).all flatV = true := by
  rw [List.all_eq_true] at f ⊢
  intro v hv
  obtain ⟨x, hx, rfl⟩ := List.mem_map.mp hv
  exact flatV_to (f x hx)
theorem eqV_to {x y : SV} (fx : flatS x = true) (fy : flatS y = true) : eqV (toV x) (toV y) = eqF x y := by
  cases x <;> first | cases fx; done | (cases y <;> first | rfl | cases fy)
theorem inV_to {x : SV} {xs : List SV} (fx : flatS x = true) (f : xs.all flatS = true) : inV (toV x) (xs.map toV) = inS x xs := by
  unfold inV inS
  rw [List.any_map]
  rw [List.all_eq_true] at f
  rw [Bool.eq_iff_iff, List.any_eq_true, List.any_eq_true]
  constructor
  · rintro ⟨y, hy, e⟩
    exact ⟨y, hy, by rw [← eqV_to (f y hy) fx]; exact e⟩
  · rintro ⟨y, hy, e⟩
    exact ⟨y, hy, by show eqV (toV y) (toV x) = true; rw [eqV_to (f y hy) fx]; exact e⟩
theorem eqVs_to : ∀ {xs ys : List SV}, xs.all flatS = true → ys.all flatS = true → eqVs (xs.map toV) (ys.map toV) = eqSs xs ys := by
  intro xs ys fx fy
  unfold eqVs eqSs
  rw [List.length_map, List.length_map, List.zip_map, List.all_map]
  congr 1
  rw [Bool.eq_iff_iff, List.all_eq_true, List.all_eq_true]
  rw [List.all_eq_true] at fx fy
  constructor
  · rintro h ⟨a, b⟩ hm
    have := h (a, b) hm
    rw [← eqV_to (fx a (List.of_mem_zip hm).1) (fy b (List.of_mem_zip hm).2)]; exact this
  · rintro h ⟨a, b⟩ hm
    have := h (a, b) hm
    show eqV (toV a) (toV b) = true
    rw [eqV_to (fx a (List.of_mem_zip hm).1) (fy b (List.of_mem_zip hm).2)]; exact this
noncomputable def seqS : SV → Sto → Option (List SV)
  | .tup xs, _ => some xs
  | .ro xs, _ => some xs
  | .loc k, S => match S[k]? with | some (.lst xs) => some xs | _ => none
  | _, _ => none
theorem seq_rl {x : SV} {v : V} {S : Sto} {xs : List SV} (ok : Ok K as H S) (r : Rl K as H v x) (h : seqS x S = some xs) : ∃ a vs, v = .ref a ∧ (SqL K H a vs ∨ SqT K H a vs) ∧ RlAll K as H vs xs := by
  cases x with
  | tup ys =>
    cases h
    obtain ⟨p, vs, rfl, hp, rr⟩ := rl_tup.mp r
    exact ⟨p, vs, rfl, .inr (SqT.of hp), rr⟩
  | ro ys =>
    cases h
    obtain ⟨p, vs, rfl, hp, rr⟩ := rl_ro.mp r
    exact ⟨p, vs, rfl, .inl hp.sq, rr⟩
  | loc k =>
    obtain ⟨a, ea, rfl⟩ := rl_loc.mp r
    unfold seqS at h
    cases hs : S[k]? with
    | none => simp only [hs] at h; cases h
    | some o =>
      cases o with
      | lst ys =>
        simp only [hs] at h
        cases h
        obtain ⟨vs, h1, rr⟩ := ok.obj k _ a hs ea
        exact ⟨a, vs, rfl, .inl (SqL.of h1), rr⟩
      | iset _ => simp only [hs] at h; cases h
      | dct _ => simp only [hs] at h; cases h
      | dcf _ _ _ => simp only [hs] at h; cases h
  | _ => cases h
theorem loc_rl {k : Nat} {v : V} {S : Sto} {xs : List SV} (ok : Ok K as H S) (r : Rl K as H v (.loc k)) (h : S[k]? = some (.lst xs)) : ∃ a vs, v = .ref a ∧ as[k]? = some a ∧ H a = some (.lst vs) ∧ RlAll K as H vs xs := by
  obtain ⟨a, ea, rfl⟩ := rl_loc.mp r
  obtain ⟨vs, h1, rr⟩ := ok.obj k _ a h ea
  exact ⟨a, vs, rfl, ea, h1, rr⟩
end
noncomputable def sAdd : S2
  | .int i, .int j, S, Q => Q (.int (i + j)) S
  | .str i, .str j, S, Q => i.length + j.length ≤ big ∧ Q (.str (i ++ j)) S
  | .tup xs, .tup ys, S, Q => xs.length + ys.length ≤ big ∧ Q (.tup (xs ++ ys)) S
  | .loc k, .loc l, S, Q => ∃ xs ys, S[k]? = some (.lst xs) ∧ S[l]? = some (.lst ys) ∧ xs.length + ys.length ≤ big ∧ Q (.loc S.length) (S ++ [.lst (xs ++ ys)])
  | _, _, _, _ => False
noncomputable def sInt (C : Int → Int → Prop) (g : Int → Int → SV) : S2
  | .int i, .int j, S, Q => C i j ∧ Q (g i j) S
  | _, _, _, _ => False
noncomputable def sInt0 (g : Int → Int → SV) : S2
  | .int i, .int j, S, Q => Q (g i j) S
  | _, _, _, _ => False
noncomputable def sMul : S2
  | .int i, .int j, S, Q => CMul i j ∧ Q (.int (i * j)) S
  | .loc k, .int j, S, Q => ∃ xs, S[k]? = some (.lst xs) ∧ (-1000000 < j ∧ j < 1000000) ∧ xs.length * j.toNat ≤ big ∧ Q (.loc S.length) (S ++ [.lst (List.replicate j.toNat xs).flatten])
  | .tup xs, .int j, S, Q => (2 ≤ j ∧ j ≤ 1000) ∧ xs.length * j.toNat ≤ big ∧ Q (.tup (List.replicate j.toNat xs).flatten) S
  | _, _, _, _ => False
theorem Mono2.add : Mono2 sAdd := fun x y S P P' i h => by
  unfold sAdd at h ⊢
  split at h <;> first
    | exact i _ _ h
    | exact ⟨h.1, i _ _ h.2⟩
    | (obtain ⟨xs, ys, a, b, c, d⟩ := h; exact ⟨xs, ys, a, b, c, i _ _ d⟩)
    | exact h.elim
theorem Mono2.int {C : Int → Int → Prop} {g : Int → Int → SV} : Mono2 (sInt C g) := fun x y S P P' i h => by
  unfold sInt at h ⊢
  split at h
  · exact ⟨h.1, i _ _ h.2⟩
  · exact h.elim
theorem Mono2.int0 {g : Int → Int → SV} : Mono2 (sInt0 g) := fun x y S P P' i h => by
  unfold sInt0 at h ⊢
  split at h
  · exact i _ _ h
  · exact h.elim
theorem Mono2.mul : Mono2 sMul := fun x y S P P' i h => by
  unfold sMul at h ⊢
  split at h
  · exact ⟨h.1, i _ _ h.2⟩
  · obtain ⟨xs, a, b, c, d⟩ := h; exact ⟨xs, a, b, c, i _ _ d⟩
  · exact ⟨h.1, h.2.1, i _ _ h.2.2⟩
  · exact h.elim
section
variable {K : PySem.W.Frag}
theorem Post.here {as : List Addr} {H : Hp} {Q : VK} {x : SV} {S : Sto} {v : V} (h : Post K as H Q x S) (ok : Ok K as H S) (r : Rl K as H v x) : Q v H := h as H v (Go.refl _ _) ok r
theorem sim_int {C : Int → Int → Prop} {g : Int → Int → SV} {g' : Int → Int → V} (hg : ∀ as H i j, Rl K as H (g' i j) (g i j)) : Sim2 K (sInt C g) (rI C g') := fun as H S x y v u Q ok rx ry h => by
  unfold sInt at h
  split at h
  · rw [rl_int] at rx ry
    exact ⟨_, _, rx, ry, h.1, h.2.here ok (hg _ _ _ _)⟩
  · exact h.elim
theorem sim_int0 {g : Int → Int → SV} {g' : Int → Int → V} (hg : ∀ as H i j, Rl K as H (g' i j) (g i j)) : Sim2 K (sInt0 g) (rI0 g') := fun as H S x y v u Q ok rx ry h => by
  unfold sInt0 at h
  split at h
  · rw [rl_int] at rx ry
    exact ⟨_, _, rx, ry, h.here ok (hg _ _ _ _)⟩
  · exact h.elim
noncomputable def rAdd (K : PySem.W.Frag) : R2 := fun x y H Q => (((rI0 fun i j => .int (i + j)) x y H Q ∨ rCat x y H Q) ∨ (rCatT K x y H Q ∨ rCat0 K x y H Q)) ∨ ∃ i j, x = .str i ∧ y = .str j ∧ i.length + j.length ≤ sizeLine ∧ Q (.str (i ++ j)) H
theorem op_addA {X : Cx} : OpR X (binaryOp .Add) (rAdd X.K) := ((op_add.or op_cat).or op_catA).or op_add_str
theorem sim_add : Sim2 K sAdd (rAdd K) := fun as H S x y v u Q ok rx ry h => by
  unfold sAdd at h
  split at h
  · rw [rl_int] at rx ry
    exact .inl (.inl (.inl ⟨_, _, rx, ry, h.here ok (rl_int.mpr rfl)⟩))
  · rw [rl_str] at rx ry
    exact .inr ⟨_, _, rx, ry, big_line h.1, h.2.here ok (rl_str.mpr rfl)⟩
  · rename_i xs ys
    obtain ⟨a, vs, rfl, ha, ra⟩ := rl_tup.mp rx
    obtain ⟨b, us, rfl, hb, rb⟩ := rl_tup.mp ry
    have l1 := ra.length
    have l2 := rb.length
    by_cases hx : vs = []
    · subst hx
      have : xs = [] := List.length_eq_zero_iff.mp (by rw [← l1]; rfl)
      subst this
      exact .inl (.inr (.inr ⟨a, b, us, rfl, rfl, SqT.of ha, SqT.of hb, h.2.here ok ry⟩))
    · refine .inl (.inr (.inl ⟨a, b, vs, us, rfl, rfl, SqT.of ha, SqT.of hb, hx, by rw [l1, l2]; exact big_line h.1, fun z => ?_, fun _ => post_tup ok (ra.append rb) h.2⟩))
      have : ys = [] := List.length_eq_zero_iff.mp (by rw [← l2, z]; rfl)
      subst this
      rw [List.append_nil] at h
      exact h.2.here ok rx
  · obtain ⟨xs, ys, h1, h2, h3, h4⟩ := h
    obtain ⟨a, vs, rfl, _, ha, ra⟩ := loc_rl ok rx h1
    obtain ⟨b, us, rfl, _, hb, rb⟩ := loc_rl ok ry h2
    exact .inl (.inl (.inr ⟨a, b, vs, us, rfl, rfl, ha, hb, by rw [ra.length, rb.length]; exact big_line h3, post_lst ok (ra.append rb) h4⟩))
  · exact h.elim
theorem RlAll.rep {as : List Addr} {H : Hp} {vs : List V} {xs : List SV} (h : RlAll K as H vs xs) : ∀ n, RlAll K as H (List.replicate n vs).flatten (List.replicate n xs).flatten
  | 0 => by simpa using RlAll.nil
  | n + 1 => by
    rw [List.replicate_succ, List.replicate_succ, List.flatten_cons, List.flatten_cons]
    exact h.append (RlAll.rep h n)
theorem sim_mul : Sim2 K sMul (fun x y H Q => ((rI CMul fun i j => .int (i * j)) x y H Q ∨ rRep x y H Q) ∨ rRepT K x y H Q) := fun as H S x y v u Q ok rx ry h => by
  unfold sMul at h
  split at h
  · rw [rl_int] at rx ry
    exact .inl (.inl ⟨_, _, rx, ry, h.1, h.2.here ok (rl_int.mpr rfl)⟩)
  · rename_i k j
    obtain ⟨xs, h1, h2, h3, h4⟩ := h
    obtain ⟨a, vs, rfl, _, ha, ra⟩ := loc_rl ok rx h1
    rw [rl_int] at ry
    subst ry
    exact .inl (.inr ⟨a, j, vs, rfl, rfl, ha, by omega, by omega, by rw [ra.length]; exact big_line h3, post_lst ok (ra.rep _) h4⟩)
  · rename_i xs j
    obtain ⟨h2, h3, h4⟩ := h
    obtain ⟨p, vs, rfl, hp, ra⟩ := rl_tup.mp rx
    rw [rl_int] at ry
    subst ry
    refine .inr ⟨p, j, vs, rfl, rfl, SqT.of hp, h2.1, h2.2, by rw [ra.length]; exact big_line h3, fun z => ?_, fun _ => post_tup ok (ra.rep _) h4⟩
    subst z
    have e : xs = [] := by
      cases xs with
      | nil => rfl
      | cons y ys => have := ra.length; simp at this
    subst e
    have e2 : (List.replicate j.toNat ([] : List SV)).flatten = [] := by simp
    rw [e2] at h4
    exact h4.here ok rx
  · exact h.elim
end
noncomputable def scS : SV → SV → Option Bool
  | .int i, .int j => some (decide (i = j))
  | .bl i, .bl j => some (decide (i = j))
  | .str i, .str j => some (decide (i = j))
  | .non, .non => some true
  | .non, .int _ => some false | .int _, .non => some false | .non, .bl _ => some false | .bl _, .non => some false | .non, .str _ => some false | .str _, .non => some false
  | .int _, .str _ => some false | .str _, .int _ => some false | .bl _, .str _ => some false | .str _, .bl _ => some false
  | _, _ => none
noncomputable def eqLS : SV → SV → Sto → (Bool → Prop) → Prop
  | .loc k, .loc l, S, Q => ∃ xs ys, S[k]? = some (.lst xs) ∧ S[l]? = some (.lst ys) ∧ ((xs.all flatS = true ∧ ys.all flatS = true) ∨ xs = [] ∨ ys = []) ∧ Q (eqSs xs ys)
  | _, _, _, _ => False
noncomputable def sEq : S2 := fun x y S Q => match scS x y with | some b => Q (.bl b) S | none => eqLS x y S fun b => Q (.bl b) S
noncomputable def sNe : S2 := fun x y S Q => match scS x y with | some b => Q (.bl (!b)) S | none => eqLS x y S fun b => Q (.bl (!b)) S
noncomputable def isetS : SV → Sto → Option (List Int)
  | .loc k, S => match S[k]? with | some (.iset ms) => some ms | _ => none
  | _, _ => none
noncomputable def sIn (neg : Bool) : S2 := fun x y S Q => match isetS y S with
  | some ms => ∃ i, x = .int i ∧ neg = false ∧ Q (.bl (decide (i ∈ ms))) S
  | none => flatS x = true ∧ ∃ ys, seqS y S = some ys ∧ ys.all flatS = true ∧ Q (.bl (if neg then !inS x ys else inS x ys)) S
noncomputable def isNon : SV → Bool
  | .non => true
  | _ => false
noncomputable def sIsN (neg : Bool) : S2 := fun x y S Q => (y = .non ∧ Q (.bl (if neg then !isNon x else isNon x)) S) ∨ ∃ c d, neg = true ∧ x = .bl c ∧ y = .bl d ∧ Q (.bl (c != d)) S
theorem eqLS_mono {x y : SV} {S : Sto} {P P' : Bool → Prop} (i : ∀ b, P b → P' b) (h : eqLS x y S P) : eqLS x y S P' := by
  unfold eqLS at h ⊢
  split at h
  · obtain ⟨xs, ys, a, b, c, d⟩ := h; exact ⟨xs, ys, a, b, c, i _ d⟩
  · exact h.elim
theorem Mono2.eq : Mono2 sEq := fun x y S P P' i h => by
  unfold sEq at h ⊢
  split at h
  · exact i _ _ h
  · exact eqLS_mono (fun _ => i _ _) h
theorem Mono2.ne : Mono2 sNe := fun x y S P P' i h => by
  unfold sNe at h ⊢
  split at h
  · exact i _ _ h
  · exact eqLS_mono (fun _ => i _ _) h
theorem Mono2.in' {n : Bool} : Mono2 (sIn n) := fun x y S P P' i h => by
  unfold sIn at h ⊢
  split at h
  · obtain ⟨j, e, z, h⟩ := h; exact ⟨j, e, z, i _ _ h⟩
  · obtain ⟨f, ys, a, b, h⟩ := h; exact ⟨f, ys, a, b, i _ _ h⟩
theorem Mono2.isN {n : Bool} : Mono2 (sIsN n) := fun x y S P P' i h => h.imp (fun h => ⟨h.1, i _ _ h.2⟩) fun ⟨c, d, z, a, b, h⟩ => ⟨c, d, z, a, b, i _ _ h⟩
section
variable {K : PySem.W.Frag}
theorem scS_rl {as : List Addr} {H : Hp} {x y : SV} {v u : V} {b : Bool} (e : scS x y = some b) (rx : Rl K as H v x) (ry : Rl K as H u y) : scal v u = true ∧ decide (v = u) = b := by
  cases x <;> first | (unfold scS at e; cases e; done) | (cases y <;> first | (unfold scS at e; cases e; done) | (simp only [rl_non, rl_bl, rl_int, rl_str] at rx ry; subst rx ry; unfold scS at e; injection e with e; subst e; exact ⟨rfl, by simp⟩))
theorem eqLS_rl {as : List Addr} {H : Hp} {S : Sto} {x y : SV} {v u : V} {Q : Bool → Prop} (ok : Ok K as H S) (rx : Rl K as H v x) (ry : Rl K as H u y) (h : eqLS x y S Q) : ∃ a b xs ys, v = .ref a ∧ u = .ref b ∧ SqL K H a xs ∧ SqL K H b ys ∧ ((xs.all flatV = true ∧ ys.all flatV = true) ∨ xs = [] ∨ ys = []) ∧ Q (eqVs xs ys) := by
  unfold eqLS at h
  split at h
  · obtain ⟨xs, ys, h1, h2, h3, h4⟩ := h
    obtain ⟨a, vs, rfl, _, ha, ra⟩ := loc_rl ok rx h1
    obtain ⟨b, us, rfl, _, hb, rb⟩ := loc_rl ok ry h2
    refine ⟨a, b, vs, us, rfl, rfl, SqL.of ha, SqL.of hb, ?_, ?_⟩
    · rcases h3 with ⟨f1, f2⟩ | h3 | h3
      · rw [flat_all f1 ra, flat_all f2 rb]
        exact .inl ⟨flatV_all f1, flatV_all f2⟩
      · subst h3; exact .inr (.inl (rla_nil.mp ra))
      · subst h3; exact .inr (.inr (rla_nil.mp rb))
    · have e : eqVs vs us = eqSs xs ys := by
        rcases h3 with ⟨f1, f2⟩ | h3 | h3
        · rw [flat_all f1 ra, flat_all f2 rb, eqVs_to f1 f2]
        · subst h3
          have := rla_nil.mp ra; subst this
          have l := rb.length
          unfold eqVs eqSs; simp [l]
        · subst h3
          have := rla_nil.mp rb; subst this
          have l := ra.length
          unfold eqVs eqSs; simp [l]
      rw [e]; exact h4
  · exact h.elim
theorem sim_eq : Sim2 K sEq (fun x y H Q => rEq x y H Q ∨ rEqL K false x y H Q) := fun as H S x y v u Q ok rx ry h => by
  unfold sEq at h
  split at h
  · rename_i b e
    obtain ⟨h1, h2⟩ := scS_rl e rx ry
    exact .inl ⟨h1, by rw [h2]; exact h.here ok (rl_bl.mpr rfl)⟩
  · obtain ⟨a, b, xs, ys, e1, e2, h1, h2, h3, h4⟩ := eqLS_rl ok rx ry h
    exact .inr ⟨a, b, xs, ys, e1, e2, h1, h2, h3, h4.here ok (rl_bl.mpr rfl)⟩
theorem sim_ne : Sim2 K sNe (fun x y H Q => rNe x y H Q ∨ rEqL K true x y H Q) := fun as H S x y v u Q ok rx ry h => by
  unfold sNe at h
  split at h
  · rename_i b e
    obtain ⟨h1, h2⟩ := scS_rl e rx ry
    exact .inl ⟨h1, by rw [h2]; exact h.here ok (rl_bl.mpr rfl)⟩
  · obtain ⟨a, b, xs, ys, e1, e2, h1, h2, h3, h4⟩ := eqLS_rl ok rx ry h
    exact .inr ⟨a, b, xs, ys, e1, e2, h1, h2, h3, h4.here ok (rl_bl.mpr rfl)⟩
theorem iset_rl {as : List Addr} {H : Hp} {S : Sto} {y : SV} {u : V} {ms : List Int} (ok : Ok K as H S) (r : Rl K as H u y) (h : isetS y S = some ms) : ∃ a k F, y = .loc k ∧ u = .ref a ∧ as[k]? = some a ∧ S[k]? = some (.iset ms) ∧ H a = some (.set F ms.length) ∧ ∀ k, F k = decide (k ∈ ms) := by
  cases y with
  | loc k =>
    obtain ⟨a, ea, rfl⟩ := rl_loc.mp r
    unfold isetS at h
    cases hs : S[k]? with
    | none => simp only [hs] at h; cases h
    | some o =>
      cases o with
      | lst ys => simp only [hs] at h; cases h
      | iset ns =>
        simp only [hs] at h
        cases h
        obtain ⟨F, h1, h2⟩ := ok.obj k _ a hs ea
        exact ⟨a, k, F, rfl, rfl, ea, hs, h1, h2⟩
      | dct _ => simp only [hs] at h; cases h
      | dcf _ _ _ => simp only [hs] at h; cases h
  | _ => cases h
noncomputable def rInA (K : PySem.W.Frag) (neg : Bool) : R2 := fun x y H Q => rIn K neg x y H Q ∨ (neg = false ∧ ∃ (k : Int) (p : Addr) (S : Int → Bool) (n : Nat), x = .int k ∧ y = .ref p ∧ H p = some (.set S n) ∧ Q (.bl (S k)) H)
theorem op_inA {X : Cx} : OpR X (compareOp .In) (rInA X.K false) := fun pins s σ H x y v u Q I rx ry h => h.elim (op_in_seq pins s σ H x y v u Q I rx ry) fun h => op_inSet pins s σ H x y v u Q I rx ry h.2
theorem op_notInA {X : Cx} : OpR X (compareOp .NotIn) (rInA X.K true) := fun pins s σ H x y v u Q I rx ry h => h.elim (op_notIn_seq pins s σ H x y v u Q I rx ry) fun h => by cases h.1
theorem sim_in {n : Bool} : Sim2 K (sIn n) (rInA K n) := fun as H S x y v u Q ok rx ry h => by
  unfold sIn at h
  split at h
  · rename_i ms hi
    obtain ⟨i, rfl, rfl, h⟩ := h
    obtain ⟨a, k, F, rfl, rfl, ea, es, hF, hk⟩ := iset_rl ok ry hi
    rw [rl_int] at rx
    exact .inr ⟨rfl, i, a, F, _, rx, rfl, hF, by rw [hk]; exact h.here ok (rl_bl.mpr rfl)⟩
  · obtain ⟨f, ys, hs, fs, h⟩ := h
    obtain ⟨a, vs, rfl, hq, rr⟩ := seq_rl ok ry hs
    have ev := flat_rl f rx
    have es := flat_all fs rr
    subst ev es
    exact .inl ⟨a, _, rfl, hq, flatV_to f, flatV_all fs, by rw [inV_to f fs]; exact h.here ok (rl_bl.mpr rfl)⟩
theorem isNon_rl {as : List Addr} {H : Hp} {x : SV} {v : V} (r : Rl K as H v x) : decide (v = V.non) = isNon x := by
  cases x with
  | non => rw [rl_non.mp r]; rfl
  | bl _ => rw [rl_bl.mp r]; rfl
  | int _ => rw [rl_int.mp r]; rfl
  | str _ => rw [rl_str.mp r]; rfl
  | tup _ => obtain ⟨p, vs, rfl, _⟩ := rl_tup.mp r; rfl
  | loc _ => obtain ⟨p, _, rfl⟩ := rl_loc.mp r; rfl
  | ro _ => obtain ⟨p, vs, rfl, _⟩ := rl_ro.mp r; rfl
  | ty _ => rw [rl_ty.mp r]; rfl
theorem sim_isN : Sim2 K (sIsN false) (fun x y H Q => y = .non ∧ Q (.bl (decide (x = .non))) H) := fun as H S x y v u Q ok rx ry h => by
  rcases h with ⟨e, h⟩ | ⟨c, d, z, _⟩
  · subst e
    exact ⟨rl_non.mp ry, by rw [isNon_rl rx]; exact h.here ok (rl_bl.mpr rfl)⟩
  · cases z
theorem sim_notN : Sim2 K (sIsN true) (fun x y H Q => (y = .non ∧ Q (.bl (!decide (x = .non))) H) ∨ ∃ c d, x = .bl c ∧ y = .bl d ∧ Q (.bl (c != d)) H) := fun as H S x y v u Q ok rx ry h => by
  rcases h with ⟨e, h⟩ | ⟨c, d, _, rfl, rfl, h⟩
  · subst e
    exact .inl ⟨rl_non.mp ry, by rw [isNon_rl rx]; exact h.here ok (rl_bl.mpr rfl)⟩
  · exact .inr ⟨c, d, rl_bl.mp rx, rl_bl.mp ry, h.here ok (rl_bl.mpr rfl)⟩
end
noncomputable def sIx : S2
  | x, .int i, S, Q => ∃ xs y, seqS x S = some xs ∧ atI xs i = some y ∧ Q y S
  | _, _, _, _ => False
theorem Mono2.ix : Mono2 sIx := fun x y S P P' i h => by
  unfold sIx at h ⊢
  split at h
  · obtain ⟨xs, z, a, b, c⟩ := h; exact ⟨xs, z, a, b, i _ _ c⟩
  · exact h.elim
section
variable {K : PySem.W.Frag}
theorem RlAll.atI {as : List Addr} {H : Hp} {xs : List SV} {vs : List V} {i : Int} {y : SV} (h : RlAll K as H vs xs) (e : L2.atI xs i = some y) : ∃ v, L2.atI vs i = some v ∧ Rl K as H v y := by
  unfold L2.atI at e ⊢
  rw [h.length]
  cases hj : ixN xs.length i with
  | none => rw [hj] at e; cases e
  | some j =>
    rw [hj] at e
    exact h.get e
theorem sim_ix : Sim2 K sIx (fun x y H Q => rIxL K x y H Q ∨ rIxT K x y H Q) := fun as H S x y v u Q ok rx ry h => by
  unfold sIx at h
  split at h
  · obtain ⟨xs, z, h1, h2, h3⟩ := h
    obtain ⟨a, vs, rfl, hq, rr⟩ := seq_rl ok rx h1
    obtain ⟨w, hw, rw'⟩ := rr.atI h2
    rw [rl_int] at ry
    rcases hq with hq | hq
    · exact .inl ⟨a, vs, _, w, rfl, ry, hq, hw, h3.here ok rw'⟩
    · exact .inr ⟨a, vs, _, w, rfl, ry, hq, hw, h3.here ok rw'⟩
  · exact h.elim
end
end Rf
set_option Elab.async false
set_option linter.all false
set_option maxRecDepth 100000
set_option maxHeartbeats 1000000
namespace Rf
open PySem L2
inductive BI where
  | len | abs | min | max | int | list | tuple | all | any | sorted | isi | str
  deriving DecidableEq
noncomputable def BI.name : BI → Str
  | .len => "len" | .abs => "abs" | .min => "min" | .max => "max" | .int => "int" | .list => "list" | .tuple => "tuple" | .all => "all" | .any => "any" | .sorted => "sorted" | .isi => "isinstance" | .str => "str"
noncomputable def blS : List SV → Option (List Bool)
  | [] => some []
  | .bl b :: xs => (blS xs).map (b :: ·)
  | _ :: _ => none
noncomputable def intS : List SV → Option (List Int)
  | [] => some []
  | .int i :: xs => (intS xs).map (i :: ·)
  | _ :: _ => none
noncomputable def tyS : SV → Sto → Option TyN
  | .non, _ => some .none
  | .bl _, _ => some .bool
  | .int _, _ => some .int
  | .str _, _ => some .str
  | .tup _, _ => some .tuple
  | .loc k, S => match S[k]? with | some (.lst _) => some .list | _ => none
  | _, _ => none
noncomputable def subB : TyN → TyN → Bool
  | .bool, .int => true
  | a, b => decide (a = b)
noncomputable def tysS : List SV → Option (List TyN)
  | [] => some []
  | .ty t :: xs => (tysS xs).map (t :: ·)
  | _ :: _ => none
noncomputable def datS : Nat → Sto → SV → Option PyData
  | _, _, .non => some .none
  | _, _, .bl b => some (.bool b)
  | _, _, .int i => some (.int i)
  | _, _, .str x => some (.str x)
  | n + 1, S, .tup xs => (xs.mapM (datS n S)).map PyData.tuple
  | n + 1, S, .loc k => match S[k]? with | some (.lst xs) => (xs.mapM (datS n S)).map PyData.list | _ => none
  | _, _, _ => none
noncomputable def a0 (f : Sto → QE → Prop) : Sn := fun xs S Q => match xs with | [] => f S Q | _ => False
noncomputable def a1 (f : S1) : Sn := fun xs S Q => match xs with | [x] => f x S Q | _ => False
noncomputable def a2 (f : S2) : Sn := fun xs S Q => match xs with | [x, y] => f x y S Q | _ => False
noncomputable def oI (f : Int → Sto → QE → Prop) : S1 := fun x S Q => match x with | .int i => f i S Q | _ => False
theorem a0_e {f : Sto → QE → Prop} {xs : List SV} {S : Sto} {Q : QE} (h : a0 f xs S Q) : xs = [] ∧ f S Q := match xs, h with | [], h => ⟨rfl, h⟩
theorem a1_e {f : S1} {xs : List SV} {S : Sto} {Q : QE} (h : a1 f xs S Q) : ∃ x, xs = [x] ∧ f x S Q := match xs, h with | [x], h => ⟨x, rfl, h⟩
theorem a2_e {f : S2} {xs : List SV} {S : Sto} {Q : QE} (h : a2 f xs S Q) : ∃ x y, xs = [x, y] ∧ f x y S Q := match xs, h with | [x, y], h => ⟨x, y, rfl, h⟩
theorem oI_e {f : Int → Sto → QE → Prop} {x : SV} {S : Sto} {Q : QE} (h : oI f x S Q) : ∃ i, x = .int i ∧ f i S Q := match x, h with | .int i, h => ⟨i, rfl, h⟩
theorem mono_a1 {f : S1} (m : Mono1 f) : MonoN (a1 f) := fun xs S P P' i h => by
  replace h := a1_e h
  obtain ⟨x, rfl, h⟩ := h
  exact m x S P P' i h
theorem mono_a2 {f : S2} (m : Mono2 f) : MonoN (a2 f) := fun xs S P P' i h => by
  replace h := a2_e h
  obtain ⟨x, y, rfl, h⟩ := h
  exact m x y S P P' i h
theorem mono_oI {f : Int → Sto → QE → Prop} (m : ∀ k S P P', (∀ x S', P x S' → P' x S') → f k S P → f k S P') : Mono1 (oI f) := fun x S P P' i h => by
  replace h := oI_e h
  obtain ⟨k, rfl, h⟩ := h
  exact m k S P P' i h
noncomputable def sAsI : S1
  | .int i, S, Q => Q (.int i) S
  | .bl b, S, Q => Q (.int (if b then 1 else 0)) S
  | _, _, _ => False
theorem asI_e {x : SV} {S : Sto} {Q : QE} (h : sAsI x S Q) : (∃ i, x = .int i ∧ Q (.int i) S) ∨ ∃ b, x = .bl b ∧ Q (.int (if b then 1 else 0)) S := match x, h with
  | .int i, h => .inl ⟨i, rfl, h⟩
  | .bl b, h => .inr ⟨b, rfl, h⟩
noncomputable def sIsi : S2 := fun x y S Q => match y with
  | .ty t => ∃ a, t ≠ .none ∧ tyS x S = some a ∧ Q (.bl (subB a t)) S
  | .tup ts => ∃ a bs, TyN.none ∉ bs ∧ tyS x S = some a ∧ tysS ts = some bs ∧ Q (.bl (bs.any (subB a))) S
  | _ => False
theorem isi_e {x y : SV} {S : Sto} {Q : QE} (h : sIsi x y S Q) : (∃ t a, y = .ty t ∧ t ≠ .none ∧ tyS x S = some a ∧ Q (.bl (subB a t)) S) ∨ ∃ ts a bs, y = .tup ts ∧ TyN.none ∉ bs ∧ tyS x S = some a ∧ tysS ts = some bs ∧ Q (.bl (bs.any (subB a))) S := match y, h with
  | .ty t, ⟨a, h⟩ => .inl ⟨t, a, rfl, h⟩
  | .tup ts, ⟨a, bs, h⟩ => .inr ⟨ts, a, bs, rfl, h⟩
noncomputable def fLen : S1 := fun x S Q => ∃ xs, seqS x S = some xs ∧ Q (.int xs.length) S
noncomputable def fAbs : S1 := oI fun i S Q => Q (.int (if i < 0 then -i else i)) S
noncomputable def fMin : S2 := fun x y S Q => oI (fun i S Q => oI (fun j S Q => Q (.int (if j < i then j else i)) S) y S Q) x S Q
noncomputable def fMax : S2 := fun x y S Q => oI (fun i S Q => oI (fun j S Q => Q (.int (if j > i then j else i)) S) y S Q) x S Q
noncomputable def fList : S1 := fun x S Q => ∃ xs, seqS x S = some xs ∧ Q (.loc S.length) (S ++ [.lst xs])
noncomputable def fTuple : S1 := fun x S Q => ∃ xs, seqS x S = some xs ∧ Q (.tup xs) S
noncomputable def fAll : S1 := fun x S Q => ∃ xs bs, x ≠ .tup xs ∧ seqS x S = some xs ∧ blS xs = some bs ∧ Q (.bl (bs.all id)) S
noncomputable def fAny : S1 := fun x S Q => ∃ xs bs, x ≠ .tup xs ∧ seqS x S = some xs ∧ blS xs = some bs ∧ Q (.bl (bs.any id)) S
noncomputable def fSorted : S1 := fun x S Q => ∃ xs ns, x ≠ .tup xs ∧ seqS x S = some xs ∧ intS xs = some ns ∧ ns.length < 64 ∧ Q (.loc S.length) (S ++ [.lst ((srt ns).map SV.int)])
noncomputable def fStr : S1 := fun x S Q => ∃ d, datS 20 S x = some d ∧ Fit d ∧ Q (.str (strD d)) S
noncomputable def sBi : BI → Sn
  | .len => a1 fLen
  | .abs => a1 fAbs
  | .min => a2 fMin
  | .max => a2 fMax
  | .int => a1 sAsI
  | .list => a1 fList
  | .tuple => a1 fTuple
  | .all => a1 fAll
  | .any => a1 fAny
  | .sorted => a1 fSorted
  | .isi => a2 sIsi
  | .str => a1 fStr
theorem MonoN.bi : ∀ {b : BI}, MonoN (sBi b)
  | .len => mono_a1 fun _ _ _ _ i ⟨a, c, d⟩ => ⟨a, c, i _ _ d⟩
  | .abs => mono_a1 (mono_oI fun _ _ _ _ i h => i _ _ h)
  | .min => mono_a2 fun x y S P P' i h => by
    replace h := oI_e h
    obtain ⟨k, rfl, h1⟩ := h
    obtain ⟨l, rfl, h2⟩ := oI_e h1
    exact i _ _ h2
  | .max => mono_a2 fun x y S P P' i h => by
    replace h := oI_e h
    obtain ⟨k, rfl, h1⟩ := h
    obtain ⟨l, rfl, h2⟩ := oI_e h1
    exact i _ _ h2
  | .int => mono_a1 fun x S P P' i h => by
    replace h := asI_e h
    rcases h with ⟨k, rfl, h⟩ | ⟨b, rfl, h⟩
    · exact i _ _ h
    · exact i _ _ h
  | .list => mono_a1 fun _ _ _ _ i ⟨a, c, d⟩ => ⟨a, c, i _ _ d⟩
  | .tuple => mono_a1 fun _ _ _ _ i ⟨a, c, d⟩ => ⟨a, c, i _ _ d⟩
  | .all => mono_a1 fun _ _ _ _ i ⟨a, b, c, d, e, f⟩ => ⟨a, b, c, d, e, i _ _ f⟩
  | .any => mono_a1 fun _ _ _ _ i ⟨a, b, c, d, e, f⟩ => ⟨a, b, c, d, e, i _ _ f⟩
  | .sorted => mono_a1 fun _ _ _ _ i ⟨a, b, c, d, e, f, g⟩ => ⟨a, b, c, d, e, f, i _ _ g⟩
  | .isi => mono_a2 fun x y S P P' i h => by
    replace h := isi_e h
    rcases h with ⟨t, a, rfl, h1, h2, h⟩ | ⟨ts, a, bs, rfl, h1, h2, h3, h⟩
    · exact ⟨a, h1, h2, i _ _ h⟩
    · exact ⟨a, bs, h1, h2, h3, i _ _ h⟩
  | .str => mono_a1 fun _ _ _ _ i ⟨a, b, c, d⟩ => ⟨a, b, c, i _ _ d⟩
section
variable {K : PySem.W.Frag} {as : List Addr} {H : Hp} {S : Sto}
theorem blS_rl : ∀ {xs : List SV} {bs : List Bool} {vs : List V}, blS xs = some bs → RlAll K as H vs xs → vs = bs.map V.bl
  | [], _, _, e, r => by cases e; exact rla_nil.mp r
  | .bl b :: xs, _, _, e, r => by
    obtain ⟨v, vs, rfl, r1, r2⟩ := rla_cons.mp r
    unfold blS at e
    cases h : blS xs with
    | none => rw [h] at e; cases e
    | some cs =>
      rw [h] at e; cases e
      rw [rl_bl.mp r1, blS_rl h r2]; rfl
  | .non :: _, _, _, e, _ => by cases e
  | .int _ :: _, _, _, e, _ => by cases e
  | .str _ :: _, _, _, e, _ => by cases e
  | .tup _ :: _, _, _, e, _ => by cases e
  | .loc _ :: _, _, _, e, _ => by cases e
  | .ro _ :: _, _, _, e, _ => by cases e
  | .ty _ :: _, _, _, e, _ => by cases e
theorem intS_rl : ∀ {xs : List SV} {bs : List Int} {vs : List V}, intS xs = some bs → RlAll K as H vs xs → vs = bs.map V.int
  | [], _, _, e, r => by cases e; exact rla_nil.mp r
  | .int b :: xs, _, _, e, r => by
    obtain ⟨v, vs, rfl, r1, r2⟩ := rla_cons.mp r
    unfold intS at e
    cases h : intS xs with
    | none => rw [h] at e; cases e
    | some cs =>
      rw [h] at e; cases e
      rw [rl_int.mp r1, intS_rl h r2]; rfl
  | .non :: _, _, _, e, _ => by cases e
  | .bl _ :: _, _, _, e, _ => by cases e
  | .str _ :: _, _, _, e, _ => by cases e
  | .tup _ :: _, _, _, e, _ => by cases e
  | .loc _ :: _, _, _, e, _ => by cases e
  | .ro _ :: _, _, _, e, _ => by cases e
  | .ty _ :: _, _, _, e, _ => by cases e
theorem list_rl {x : SV} {v : V} {xs : List SV} (ok : Ok K as H S) (r : Rl K as H v x) (n : x ≠ .tup xs) (h : seqS x S = some xs) : ∃ a vs, v = .ref a ∧ SqL K H a vs ∧ RlAll K as H vs xs := by
  cases x with
  | tup ys => cases h; exact absurd rfl n
  | ro ys =>
    cases h
    obtain ⟨p, vs, rfl, hp, rr⟩ := rl_ro.mp r
    exact ⟨p, vs, rfl, hp.sq, rr⟩
  | loc k =>
    obtain ⟨a, ea, rfl⟩ := rl_loc.mp r
    unfold seqS at h
    cases hs : S[k]? with
    | none => simp only [hs] at h; cases h
    | some o =>
      cases o with
      | lst ys =>
        simp only [hs] at h
        cases h
        obtain ⟨vs, h1, rr⟩ := ok.obj k _ a hs ea
        exact ⟨a, vs, rfl, SqL.of h1, rr⟩
      | iset _ => simp only [hs] at h; cases h
      | dct _ => simp only [hs] at h; cases h
      | dcf _ _ _ => simp only [hs] at h; cases h
  | _ => cases h
theorem rla1 {vs : List V} {x : SV} (r : RlAll K as H vs [x]) : ∃ v, vs = [v] ∧ Rl K as H v x := by
  obtain ⟨v, t, rfl, r1, r2⟩ := rla_cons.mp r
  rw [rla_nil.mp r2]; exact ⟨v, rfl, r1⟩
theorem rla2 {vs : List V} {x y : SV} (r : RlAll K as H vs [x, y]) : ∃ v u, vs = [v, u] ∧ Rl K as H v x ∧ Rl K as H u y := by
  obtain ⟨v, t, rfl, r1, r2⟩ := rla_cons.mp r
  obtain ⟨u, rfl, r3⟩ := rla1 r2
  exact ⟨v, u, rfl, r1, r3⟩
end
theorem tuple_rl {K : PySem.W.Frag} {as : List Addr} {H : Hp} {S : Sto} {Q : VK} {x : SV} {v : V} {ys : List SV} (ok : Ok K as H S) (r1 : Rl K as H v x) (h1 : seqS x S = some ys) (h2 : Post K as H Q (.tup ys) S) : ∃ p us, v = .ref p ∧ ((SqL K H p us ∧ ∀ l, H l = none → Q (.ref l) (upd H l (.tup us))) ∨ (SqT K H p us ∧ Q (.ref p) H)) := by
  cases x with
  | tup zs =>
    cases h1
    obtain ⟨p, us, rfl, hp, rr⟩ := rl_tup.mp r1
    exact ⟨p, us, rfl, .inr ⟨SqT.of hp, h2.here ok r1⟩⟩
  | loc k =>
    obtain ⟨a, us, rfl, hq, rr⟩ := list_rl ok r1 (by intro z; cases z) h1
    exact ⟨a, us, rfl, .inl ⟨hq, post_tup ok rr h2⟩⟩
  | ro k =>
    obtain ⟨a, us, rfl, hq, rr⟩ := list_rl ok r1 (by intro z; cases z) h1
    exact ⟨a, us, rfl, .inl ⟨hq, post_tup ok rr h2⟩⟩
  | _ => cases h1
section
variable {K : PySem.W.Frag} {as : List Addr} {H : Hp} {S : Sto}
theorem ty_rl {x : SV} {v : V} {a : TyN} (ok : Ok K as H S) (r : Rl K as H v x) (h : tyS x S = some a) : TyOf K H v (.type a.nm) := by
  cases x with
  | non => cases h; rw [rl_non.mp r]; exact .non
  | bl b => cases h; rw [rl_bl.mp r]; exact .bl b
  | int b => cases h; rw [rl_int.mp r]; exact .int b
  | str b => cases h; rw [rl_str.mp r]; exact .str b
  | tup xs => cases h; obtain ⟨p, vs, rfl, hp, _⟩ := rl_tup.mp r; exact .tup hp
  | loc k =>
    obtain ⟨b, eb, rfl⟩ := rl_loc.mp r
    unfold tyS at h
    cases hs : S[k]? with
    | none => simp only [hs] at h; cases h
    | some o =>
      cases o with
      | lst ys =>
        simp only [hs] at h
        cases h
        obtain ⟨vs, h1, _⟩ := ok.obj k _ b hs eb
        exact .lst h1
      | iset _ => simp only [hs] at h; cases h
      | dct _ => simp only [hs] at h; cases h
      | dcf _ _ _ => simp only [hs] at h; cases h
  | _ => cases h
noncomputable def ktn (t c : String) : Option Bool := if (Value.type t == Value.type c) = true then some true else if PySem.W.kitMeta c = true then (fastBuiltinMro t).map (·.contains (.type c)) else none
theorem kit_sub {K : PySem.W.Frag} (a : TyN) (t : TyN) (ht : t ≠ .none) : PySem.W.kitOne K (.type a.nm) (.type t.nm) = some (subB a t) := by
  have e : PySem.W.kitOne K (.type a.nm) (.type t.nm) = ktn a.nm t.nm := rfl
  rw [e]
  cases a <;> cases t <;> first | exact absurd rfl ht | decide +kernel
theorem kit_any {K : PySem.W.Frag} (a : TyN) : ∀ (bs : List TyN), TyN.none ∉ bs → PySem.W.kitAny K (.type a.nm) ((bs.map TyN.nm).map Value.type) = some (bs.any (subB a))
  | [], _ => rfl
  | b :: bs, h => by
    rw [List.map_cons, List.map_cons, PySem.W.kitAny, kit_sub a b (fun z => h (by rw [z]; simp)), List.any_cons]
    cases subB a b with
    | true => rfl
    | false => exact kit_any a bs (fun z => h (List.mem_cons_of_mem _ z))
theorem tys_rl : ∀ {xs : List SV} {bs : List TyN} {vs : List V}, tysS xs = some bs → RlAll K as H vs xs → vs = (bs.map TyN.nm).map V.ty
  | [], _, _, e, r => by cases e; exact rla_nil.mp r
  | .ty b :: xs, _, _, e, r => by
    obtain ⟨v, vs, rfl, r1, r2⟩ := rla_cons.mp r
    unfold tysS at e
    cases h : tysS xs with
    | none => rw [h] at e; cases e
    | some cs =>
      rw [h] at e; cases e
      rw [rl_ty.mp r1, tys_rl h r2]; rfl
  | .non :: _, _, _, e, _ => by cases e
  | .bl _ :: _, _, _, e, _ => by cases e
  | .str _ :: _, _, _, e, _ => by cases e
  | .tup _ :: _, _, _, e, _ => by cases e
  | .loc _ :: _, _, _, e, _ => by cases e
  | .ro _ :: _, _, _, e, _ => by cases e
  | .int _ :: _, _, _, e, _ => by cases e
theorem mapM_rl {n : Nat} (ih : ∀ {x : SV} {d : PyData} {v : V}, datS n S x = some d → Rl K as H v x → Dat H v d) : ∀ {xs : List SV} {ds : List PyData} {vs : List V}, xs.mapM (datS n S) = some ds → RlAll K as H vs xs → DatAll H vs ds
  | [], _, _, e, r => by
    rw [List.mapM_nil] at e
    cases e; rw [rla_nil.mp r]; unfold DatAll; trivial
  | x :: xs, _, _, e, r => by
    obtain ⟨v, vs, rfl, r1, r2⟩ := rla_cons.mp r
    rw [List.mapM_cons] at e
    cases h1 : datS n S x with
    | none => rw [h1] at e; cases e
    | some d =>
      rw [h1] at e
      cases h2 : xs.mapM (datS n S) with
      | none => rw [h2] at e; cases e
      | some ds =>
        rw [h2] at e; cases e
        unfold DatAll; exact ⟨ih h1 r1, mapM_rl ih h2 r2⟩
theorem dat_rl (ok : Ok K as H S) : ∀ (n : Nat) {x : SV} {d : PyData} {v : V}, datS n S x = some d → Rl K as H v x → Dat H v d := by
  intro n
  induction n with
  | zero =>
    intro x d v e r
    cases x with
    | non => cases e; rw [rl_non.mp r]; unfold Dat; rfl
    | bl b => cases e; rw [rl_bl.mp r]; unfold Dat; rfl
    | int b => cases e; rw [rl_int.mp r]; unfold Dat; rfl
    | str b => cases e; rw [rl_str.mp r]; unfold Dat; rfl
    | _ => unfold datS at e; cases e
  | succ n ih =>
    intro x d v e r
    cases x with
    | non => cases e; rw [rl_non.mp r]; unfold Dat; rfl
    | bl b => cases e; rw [rl_bl.mp r]; unfold Dat; rfl
    | int b => cases e; rw [rl_int.mp r]; unfold Dat; rfl
    | str b => cases e; rw [rl_str.mp r]; unfold Dat; rfl
    | tup xs =>
      unfold datS at e
      cases h : xs.mapM (datS n S) with
      | none => rw [h] at e; cases e
      | some ds =>
        rw [h] at e; cases e
        obtain ⟨p, vs, rfl, hp, rr⟩ := rl_tup.mp r
        unfold Dat; exact ⟨p, vs, rfl, hp, mapM_rl ih h rr⟩
    | loc k =>
      unfold datS at e
      cases hs : S[k]? with
      | none => simp only [hs] at e; cases e
      | some o =>
        cases o with
        | lst ys =>
          simp only [hs] at e
          cases h : ys.mapM (datS n S) with
          | none => rw [h] at e; cases e
          | some ds =>
            rw [h] at e; cases e
            obtain ⟨a, vs, rfl, _, ha, rr⟩ := loc_rl ok r hs
            unfold Dat; exact ⟨a, vs, rfl, ha, mapM_rl ih h rr⟩
        | iset _ => simp only [hs] at e; cases e
        | dct _ => simp only [hs] at e; cases e
        | dcf _ _ _ => simp only [hs] at e; cases e
    | _ => unfold datS at e; cases e
end
noncomputable def rBi (K : PySem.W.Frag) : BI → List V → Hp → VK → Prop
  | .len => fun xs H Q => ∃ p ys, xs = [.ref p] ∧ (SqL K H p ys ∨ SqT K H p ys) ∧ Q (.int ys.length) H
  | .abs => fun xs H Q => ∃ i, xs = [.int i] ∧ Q (.int (if i < 0 then -i else i)) H
  | .min => fun xs H Q => ∃ i j, xs = [.int i, .int j] ∧ Q (.int (if j < i then j else i)) H
  | .max => fun xs H Q => ∃ i j, xs = [.int i, .int j] ∧ Q (.int (if j > i then j else i)) H
  | .int => fun xs H Q => (∃ i, xs = [.int i] ∧ Q (.int i) H) ∨ ∃ k, xs = [.bl k] ∧ Q (.int (if k then 1 else 0)) H
  | .list => fun xs H Q => ∃ p ys, xs = [.ref p] ∧ (SqL K H p ys ∨ SqT K H p ys) ∧ ∀ l, H l = none → Q (.ref l) (upd H l (.lst ys))
  | .tuple => fun xs H Q => ∃ p ys, xs = [.ref p] ∧ ((SqL K H p ys ∧ ∀ l, H l = none → Q (.ref l) (upd H l (.tup ys))) ∨ (SqT K H p ys ∧ Q (.ref p) H))
  | .all => fun xs H Q => ∃ (a : Addr) (bs : List Bool), xs = [.ref a] ∧ SqL K H a (bs.map V.bl) ∧ Q (.bl (bs.all id)) H
  | .any => fun xs H Q => ∃ (a : Addr) (bs : List Bool), xs = [.ref a] ∧ SqL K H a (bs.map V.bl) ∧ Q (.bl (bs.any id)) H
  | .sorted => fun xs H Q => ∃ p ns, xs = [.ref p] ∧ SqL K H p (ns.map V.int) ∧ ns.length < 64 ∧ ∀ l, H l = none → Q (.ref l) (upd H l (.lst ((srt ns).map V.int)))
  | .isi => fun xs H Q => (∃ x T t b, xs = [x, .ty T] ∧ TyOf K H x t ∧ PySem.W.kitOne K t (.type T) = some b ∧ Q (.bl b) H) ∨ (∃ (x : V) (p : Addr) (Ts : List String) (t : Value) (b : Bool), xs = [x, .ref p] ∧ H p = some (.tup (Ts.map V.ty)) ∧ TyOf K H x t ∧ PySem.W.kitAny K t (Ts.map Value.type) = some b ∧ Q (.bl b) H)
  | .str => fun xs H Q => ∃ x d, xs = [x] ∧ Dat H x d ∧ Fit d ∧ Q (.str (strD d)) H
theorem sim_bi {K : PySem.W.Frag} : ∀ {b : BI}, SimN K (sBi b) (rBi K b)
  | .len => fun as H S xs vs Q ok r h => by
    replace h := a1_e h
    obtain ⟨x, rfl, ys, h1, h2⟩ := h
    obtain ⟨v, rfl, r1⟩ := rla1 r
    obtain ⟨a, us, rfl, hq, rr⟩ := seq_rl ok r1 h1
    exact ⟨a, us, rfl, hq, by rw [rr.length]; exact h2.here ok (rl_int.mpr rfl)⟩
  | .abs => fun as H S xs vs Q ok r h => by
    replace h := a1_e h
    obtain ⟨x, rfl, h⟩ := h
    replace h := oI_e h
    obtain ⟨i, rfl, h⟩ := h
    obtain ⟨v, rfl, r1⟩ := rla1 r
    exact ⟨_, by rw [rl_int.mp r1], Post.here h ok (rl_int.mpr rfl)⟩
  | .min => fun as H S xs vs Q ok r h => by
    replace h := a2_e h
    obtain ⟨x, y, rfl, h⟩ := h
    replace h := oI_e h
    obtain ⟨i, rfl, h⟩ := h
    replace h := oI_e h
    obtain ⟨j, rfl, h⟩ := h
    obtain ⟨v, u, rfl, r1, r2⟩ := rla2 r
    exact ⟨_, _, by rw [rl_int.mp r1, rl_int.mp r2], Post.here h ok (rl_int.mpr rfl)⟩
  | .max => fun as H S xs vs Q ok r h => by
    replace h := a2_e h
    obtain ⟨x, y, rfl, h⟩ := h
    replace h := oI_e h
    obtain ⟨i, rfl, h⟩ := h
    replace h := oI_e h
    obtain ⟨j, rfl, h⟩ := h
    obtain ⟨v, u, rfl, r1, r2⟩ := rla2 r
    exact ⟨_, _, by rw [rl_int.mp r1, rl_int.mp r2], Post.here h ok (rl_int.mpr rfl)⟩
  | .int => fun as H S xs vs Q ok r h => by
    replace h := a1_e h
    obtain ⟨x, rfl, h⟩ := h
    obtain ⟨v, rfl, r1⟩ := rla1 r
    replace h := asI_e h
    rcases h with ⟨k, rfl, h⟩ | ⟨b, rfl, h⟩
    · exact .inl ⟨_, by rw [rl_int.mp r1], Post.here h ok (rl_int.mpr rfl)⟩
    · exact .inr ⟨_, by rw [rl_bl.mp r1], Post.here h ok (rl_int.mpr rfl)⟩
  | .list => fun as H S xs vs Q ok r h => by
    replace h := a1_e h
    obtain ⟨x, rfl, ys, h1, h2⟩ := h
    obtain ⟨v, rfl, r1⟩ := rla1 r
    obtain ⟨a, us, rfl, hq, rr⟩ := seq_rl ok r1 h1
    exact ⟨a, us, rfl, hq, post_lst ok rr h2⟩
  | .tuple => fun as H S xs vs Q ok r h => by
    replace h := a1_e h
    obtain ⟨x, rfl, ys, h1, h2⟩ := h
    obtain ⟨v, rfl, r1⟩ := rla1 r
    obtain ⟨p, us, rfl, z⟩ := tuple_rl ok r1 h1 h2
    exact ⟨p, us, rfl, z⟩
  | .all => fun as H S xs vs Q ok r h => by
    replace h := a1_e h
    obtain ⟨x, rfl, ys, bs, h0, h1, h2, h3⟩ := h
    obtain ⟨v, rfl, r1⟩ := rla1 r
    obtain ⟨a, us, rfl, hq, rr⟩ := list_rl ok r1 h0 h1
    rw [blS_rl h2 rr] at hq
    exact ⟨a, bs, rfl, hq, h3.here ok (rl_bl.mpr rfl)⟩
  | .any => fun as H S xs vs Q ok r h => by
    replace h := a1_e h
    obtain ⟨x, rfl, ys, bs, h0, h1, h2, h3⟩ := h
    obtain ⟨v, rfl, r1⟩ := rla1 r
    obtain ⟨a, us, rfl, hq, rr⟩ := list_rl ok r1 h0 h1
    rw [blS_rl h2 rr] at hq
    exact ⟨a, bs, rfl, hq, h3.here ok (rl_bl.mpr rfl)⟩
  | .sorted => fun as H S xs vs Q ok r h => by
    replace h := a1_e h
    obtain ⟨x, rfl, ys, ns, h0, h1, h2, h3, h4⟩ := h
    obtain ⟨v, rfl, r1⟩ := rla1 r
    obtain ⟨a, us, rfl, hq, rr⟩ := list_rl ok r1 h0 h1
    rw [intS_rl h2 rr] at hq
    exact ⟨a, ns, rfl, hq, h3, post_lst ok RlAll.ints h4⟩
  | .isi => fun as H S xs vs Q ok r h => by
    replace h := a2_e h
    obtain ⟨x, y, rfl, h⟩ := h
    obtain ⟨v, u, rfl, r1, r2⟩ := rla2 r
    replace h := isi_e h
    rcases h with ⟨t, a, rfl, h0, h1, h2⟩ | ⟨ts, a, bs, rfl, h0, h1, h2, h3⟩
    · rw [rl_ty.mp r2]
      exact .inl ⟨v, _, _, _, rfl, ty_rl ok r1 h1, kit_sub _ _ h0, h2.here ok (rl_bl.mpr rfl)⟩
    · obtain ⟨p, vs, rfl, hp, rr⟩ := rl_tup.mp r2
      rw [tys_rl h2 rr] at hp
      exact .inr ⟨v, p, _, _, _, rfl, hp, ty_rl ok r1 h1, kit_any _ _ h0, h3.here ok (rl_bl.mpr rfl)⟩
  | .str => fun as H S xs vs Q ok r h => by
    replace h := a1_e h
    obtain ⟨x, rfl, d, h1, h2, h3⟩ := h
    obtain ⟨v, rfl, r1⟩ := rla1 r
    exact ⟨v, d, rfl, dat_rl ok 20 h1 r1, h2, h3.here ok (rl_str.mpr rfl)⟩
inductive MT where
  | append | extend | pop | insert | reverse | clear
  deriving DecidableEq
noncomputable def MT.name : MT → Str
  | .append => "append" | .extend => "extend" | .pop => "pop" | .insert => "insert" | .reverse => "reverse" | .clear => "clear"
noncomputable def oL (f : Nat → Sto → QE → Prop) : S1 := fun x S Q => match x with | .loc k => f k S Q | _ => False
theorem oL_e {f : Nat → Sto → QE → Prop} {x : SV} {S : Sto} {Q : QE} (h : oL f x S Q) : ∃ k, x = .loc k ∧ f k S Q := match x, h with | .loc k, h => ⟨k, rfl, h⟩
noncomputable def gPop0 : Nat → Sto → QE → Prop := fun k S Q => ∃ xs y, S[k]? = some (.lst xs) ∧ xs[xs.length - 1]? = some y ∧ Q y (S.set k (.lst xs.dropLast))
noncomputable def gPopI (k : Nat) : Int → Sto → QE → Prop := fun i S Q => ∃ xs y, S[k]? = some (.lst xs) ∧ (0 ≤ i ∧ i < xs.length) ∧ xs.length ≤ big ∧ xs[i.toNat]? = some y ∧ Q y (S.set k (.lst (xs.eraseIdx i.toNat)))
noncomputable def gPop1 (y : SV) : Nat → Sto → QE → Prop := fun k S Q => oI (gPopI k) y S Q
noncomputable def sPop (x : SV) : Sn := fun xs S Q => match xs with
  | [] => oL gPop0 x S Q
  | [y] => oL (gPop1 y) x S Q
  | _ => False
noncomputable def gAppend (x : SV) : S1 := fun y S Q => oL (fun k S Q => ∃ xs, S[k]? = some (.lst xs) ∧ xs.length < big ∧ Q .non (S.set k (.lst (xs ++ [y])))) x S Q
noncomputable def gExtend (x : SV) : S1 := fun y S Q => oL (fun k S Q => oL (fun l S Q => ∃ xs ys, S[k]? = some (.lst xs) ∧ S[l]? = some (.lst ys) ∧ xs.length + ys.length ≤ big ∧ Q .non (S.set k (.lst (xs ++ ys)))) y S Q) x S Q
noncomputable def gInsert (x : SV) : S2 := fun z y S Q => oL (fun k S Q => oI (fun i S Q => ∃ xs, S[k]? = some (.lst xs) ∧ (0 ≤ i ∧ i ≤ xs.length) ∧ xs.length < big ∧ Q .non (S.set k (.lst (xs.take i.toNat ++ y :: xs.drop i.toNat)))) z S Q) x S Q
noncomputable def gReverse (x : SV) : Sto → QE → Prop := fun S Q => oL (fun k S Q => ∃ xs, S[k]? = some (.lst xs) ∧ Q .non (S.set k (.lst xs.reverse))) x S Q
noncomputable def gClear (x : SV) : Sto → QE → Prop := fun S Q => oL (fun k S Q => ∃ xs, S[k]? = some (.lst xs) ∧ Q .non (S.set k (.lst []))) x S Q
noncomputable def sMt : MT → SV → Sn
  | .append, x => a1 (gAppend x)
  | .extend, x => a1 (gExtend x)
  | .pop, x => sPop x
  | .insert, x => a2 (gInsert x)
  | .reverse, x => a0 (gReverse x)
  | .clear, x => a0 (gClear x)
theorem pop_e {x : SV} {xs : List SV} {S : Sto} {Q : QE} (h : sPop x xs S Q) : ∃ k, x = .loc k ∧ ((xs = [] ∧ ∃ xs y, S[k]? = some (.lst xs) ∧ xs[xs.length - 1]? = some y ∧ Q y (S.set k (.lst xs.dropLast))) ∨
    ∃ i, xs = [.int i] ∧ ∃ xs y, S[k]? = some (.lst xs) ∧ (0 ≤ i ∧ i < xs.length) ∧ xs.length ≤ big ∧ xs[i.toNat]? = some y ∧ Q y (S.set k (.lst (xs.eraseIdx i.toNat)))) := match xs, h with
  | [], h => by
    have h : oL gPop0 x S Q := h
    obtain ⟨k, e, h⟩ := oL_e h
    exact ⟨k, e, .inl ⟨rfl, h⟩⟩
  | [y], h => by
    have h : oL (gPop1 y) x S Q := h
    obtain ⟨k, e, h⟩ := oL_e h
    have h : oI (gPopI k) y S Q := h
    obtain ⟨i, e2, h⟩ := oI_e h
    exact ⟨k, e, .inr ⟨i, by rw [e2], h⟩⟩
theorem mono_mt : ∀ {m : MT} {x : SV}, MonoN (sMt m x)
  | .append, x => mono_a1 fun y S P P' i h => by
    replace h := oL_e h
    obtain ⟨k, rfl, a, c, d, e⟩ := h
    exact ⟨a, c, d, i _ _ e⟩
  | .extend, x => mono_a1 fun y S P P' i h => by
    replace h := oL_e h
    obtain ⟨k, rfl, h⟩ := h
    replace h := oL_e h
    obtain ⟨l, rfl, a, c, d, e, f, g⟩ := h
    exact ⟨a, c, d, e, f, i _ _ g⟩
  | .pop, x => fun xs S P P' i h => by
    replace h := pop_e h
    obtain ⟨k, rfl, h⟩ := h
    rcases h with ⟨rfl, a, c, d, e, f⟩ | ⟨j, rfl, a, c, d, e, f, g, h⟩
    · exact ⟨a, c, d, e, i _ _ f⟩
    · exact ⟨a, c, d, e, f, g, i _ _ h⟩
  | .insert, x => mono_a2 fun z y S P P' i h => by
    replace h := oL_e h
    obtain ⟨k, rfl, h⟩ := h
    replace h := oI_e h
    obtain ⟨j, rfl, a, c, d, e, f⟩ := h
    exact ⟨a, c, d, e, i _ _ f⟩
  | .reverse, x => fun xs S P P' i h => by
    replace h := a0_e h
    obtain ⟨rfl, h⟩ := h
    replace h := oL_e h
    obtain ⟨k, rfl, a, c, d⟩ := h
    exact ⟨a, c, i _ _ d⟩
  | .clear, x => fun xs S P P' i h => by
    replace h := a0_e h
    obtain ⟨rfl, h⟩ := h
    replace h := oL_e h
    obtain ⟨k, rfl, a, c, d⟩ := h
    exact ⟨a, c, i _ _ d⟩
noncomputable def rMt : MT → V → List V → Hp → VK → Prop
  | .append => rAppend
  | .extend => rExtend
  | .pop => fun x vs H Q => rPop x vs H Q ∨ rPopAt x vs H Q
  | .insert => rInsert
  | .reverse => rReverse
  | .clear => rClear
section
variable {K : PySem.W.Frag} {as : List Addr} {H : Hp} {S : Sto}
theorem RlAll.erase : ∀ {xs : List SV} {vs : List V} (n : Nat), RlAll K as H vs xs → RlAll K as H (vs.eraseIdx n) (xs.eraseIdx n)
  | [], _, n, h => by rw [rla_nil.mp h]; exact .nil
  | x :: xs, _, 0, h => by
    obtain ⟨v, r, rfl, a, t⟩ := rla_cons.mp h
    exact t
  | x :: xs, _, n + 1, h => by
    obtain ⟨v, r, rfl, a, t⟩ := rla_cons.mp h
    exact .cons a (t.erase n)
theorem RlAll.dropLast {xs : List SV} {vs : List V} (h : RlAll K as H vs xs) : RlAll K as H vs.dropLast xs.dropLast := by
  rw [List.dropLast_eq_take, List.dropLast_eq_take, h.length]; exact h.take _
theorem post_write {Q : VK} {k : Nat} {a : Addr} {xs ys : List SV} {us : List V} {x : SV} {v : V} (ok : Ok K as H S) (e : S[k]? = some (.lst xs)) (ea : as[k]? = some a) (r : RlAll K as H us ys) (h : Post K as H Q x (S.set k (.lst ys))) (rx : Rl K as H v x) : Q v (upd H a (.lst us)) := by
  obtain ⟨ok', ku⟩ := ok.write e ea r
  exact h as _ v (Go.write (List.mem_of_getElem? ea)) ok' (Rl.mono (List.prefix_refl _) ku x v rx)
theorem sim_mt : ∀ {m : MT} {Q : VK} {x : SV} {v : V} {xs : List SV} {vs : List V} (ok : Ok K as H S) (rx : Rl K as H v x) (r : RlAll K as H vs xs) (h : sMt m x xs S (Post K as H Q)), rMt m v vs H Q
  | .append, Q, x, v, xs, vs, ok, rx, r, h => by
    replace h := a1_e h
    obtain ⟨y, rfl, h⟩ := h
    replace h := oL_e h
    obtain ⟨k, rfl, ys, h1, h2, h3⟩ := h
    obtain ⟨a, us, rfl, ea, ha, ra⟩ := loc_rl ok rx h1
    obtain ⟨u, rfl, ru⟩ := rla1 r
    exact ⟨a, us, u, rfl, rfl, ha, by rw [ra.length]; exact big_lt h2, post_write ok h1 ea (ra.append (.cons ru .nil)) h3 (rl_non.mpr rfl)⟩
  | .extend, Q, x, v, xs, vs, ok, rx, r, h => by
    replace h := a1_e h
    obtain ⟨y, rfl, h⟩ := h
    replace h := oL_e h
    obtain ⟨k, rfl, h⟩ := h
    replace h := oL_e h
    obtain ⟨l, rfl, ys, zs, h1, h2, h3, h4⟩ := h
    obtain ⟨a, us, rfl, ea, ha, ra⟩ := loc_rl ok rx h1
    obtain ⟨u, rfl, ru⟩ := rla1 r
    obtain ⟨b, ws, rfl, eb, hb, rb⟩ := loc_rl ok ru h2
    exact ⟨a, b, us, ws, rfl, rfl, ha, hb, by rw [ra.length, rb.length]; exact big_line h3, post_write ok h1 ea (ra.append rb) h4 (rl_non.mpr rfl)⟩
  | .pop, Q, x, v, xs, vs, ok, rx, r, h => by
    replace h := pop_e h
    obtain ⟨k, rfl, h⟩ := h
    rcases h with ⟨rfl, ys, y, h1, h2, h3⟩ | ⟨i, rfl, ys, y, h1, h2, h3, h4, h5⟩
    · obtain ⟨a, us, rfl, ea, ha, ra⟩ := loc_rl ok rx h1
      obtain ⟨z, hz, rz⟩ := ra.get h2
      rw [rla_nil.mp r]
      exact .inl ⟨a, us, z, rfl, rfl, ha, by rw [ra.length]; exact hz, post_write ok h1 ea ra.dropLast h3 rz⟩
    · obtain ⟨a, us, rfl, ea, ha, ra⟩ := loc_rl ok rx h1
      obtain ⟨u, rfl, ru⟩ := rla1 r
      obtain ⟨z, hz, rz⟩ := ra.get h4
      rw [rl_int.mp ru]
      have hb : big = 100000 := rfl
      refine .inr ⟨a, us, i, i.toNat, z, rfl, rfl, ha, by omega, by omega, ?_, hz, post_write ok h1 ea (ra.erase _) h5 rz⟩
      rw [ra.length]; exact PySem.seqIndex_of h2.1 h2.2
  | .insert, Q, x, v, xs, vs, ok, rx, r, h => by
    replace h := a2_e h
    obtain ⟨z, y, rfl, h⟩ := h
    replace h := oL_e h
    obtain ⟨k, rfl, h⟩ := h
    replace h := oI_e h
    obtain ⟨i, rfl, ys, h1, h2, h3, h4⟩ := h
    obtain ⟨a, us, rfl, ea, ha, ra⟩ := loc_rl ok rx h1
    obtain ⟨u, w, rfl, ru, rw'⟩ := rla2 r
    rw [rl_int.mp ru]
    exact ⟨a, us, i, w, rfl, rfl, ha, h2.1, by rw [ra.length]; exact h2.2, by rw [ra.length]; exact big_lt h3, post_write ok h1 ea (ra.ins rw' _) h4 (rl_non.mpr rfl)⟩
  | .reverse, Q, x, v, xs, vs, ok, rx, r, h => by
    replace h := a0_e h
    obtain ⟨rfl, h⟩ := h
    replace h := oL_e h
    obtain ⟨k, rfl, ys, h1, h2⟩ := h
    obtain ⟨a, us, rfl, ea, ha, ra⟩ := loc_rl ok rx h1
    rw [rla_nil.mp r]
    exact ⟨a, us, rfl, rfl, ha, post_write ok h1 ea ra.rev h2 (rl_non.mpr rfl)⟩
  | .clear, Q, x, v, xs, vs, ok, rx, r, h => by
    replace h := a0_e h
    obtain ⟨rfl, h⟩ := h
    replace h := oL_e h
    obtain ⟨k, rfl, ys, h1, h2⟩ := h
    obtain ⟨a, us, rfl, ea, ha, ra⟩ := loc_rl ok rx h1
    rw [rla_nil.mp r]
    exact ⟨a, us, rfl, rfl, ha, post_write ok h1 ea .nil h2 (rl_non.mpr rfl)⟩
end
end Rf
set_option Elab.async false
set_option linter.all false
set_option maxRecDepth 100000
set_option maxHeartbeats 1000000
namespace L2
open PySem PySem.Spec PyProof.Rows
noncomputable def cnt2 (i j : Int) : Nat := (if i < j then (j - i - 1) / 2 + 1 else 0).toNat
section
variable {X : Cx} {tg : Expr}
end
end L2
set_option Elab.async false
set_option linter.all false
set_option maxRecDepth 100000
set_option maxHeartbeats 1000000
namespace L2
open PySem PySem.Spec PyProof.Rows
section
variable {X : Cx} {pins : List (Addr × Obj)} {σ : St} {H : Hp} {s : Shared} {a : Addr} {u u' : HO}
theorem Inv.retag (I : Inv X pins σ H s) (hu : H a = some u) (h1 : ∀ xs, u ≠ .tup xs) (h2 : ∀ y, u ≠ .own y) (h3 : ∀ ps, u ≠ .tbl ps) (h4 : ∀ o xs, u ≠ .frz o (.lst xs)) (new : ObjOk X.prog X.w (upd H a u') s.heap a u') : Inv X pins σ (upd H a u') s := by
  have ne : ∀ b, H b = none → b ≠ a := fun b n z => by rw [z, hu] at n; cases n
  refine ⟨I.ok, I.os, I.bare, ⟨I.base.keep, I.base.slot, fun b o e n hx => ?_, I.base.there, fun b xs e => ?_, fun b o w e => ?_, fun b ps e => ?_⟩, I.loc, I.cell, ?_, fun x c e => ?_, fun p hp => ?_, fun b o e => ?_, I.len⟩
  · have q := I.base.free b o e n hx
    rw [upd_ne (ne b q)]; exact q
  · have q := I.base.tups b xs e
    by_cases hb : b = a
    · rw [hb, hu] at q; exact absurd (Option.some.inj q) (h1 xs)
    · rw [upd_ne hb]; exact q
  · have q := I.base.frzs b o w e
    by_cases hb : b = a
    · rw [hb, hu] at q; exact absurd (Option.some.inj q) (h4 o w)
    · rw [upd_ne hb]; exact q
  · obtain ⟨m, q⟩ := I.base.tbls b ps e
    by_cases hb : b = a
    · rw [hb, hu] at q; exact absurd (Option.some.inj q) (h3 _)
    · exact ⟨m, by rw [upd_ne hb]; exact q⟩
  · rw [upd_ne (ne _ I.free)]; exact I.free
  · rw [upd_ne (ne _ (I.freeC x c e))]; exact I.freeC x c e
  · obtain ⟨p1, p2, p3⟩ := I.pin p hp
    exact ⟨p1, by rw [upd_ne (ne _ p2)]; exact p2, p3⟩
  · by_cases hb : b = a
    · subst hb
      rw [upd_same] at e
      cases e
      exact new
    · rw [upd_ne hb] at e
      refine (I.hok b o e).stay (fun _ _ _ q => q) (fun c q => ?_) (fun c xs q => ?_)
      · by_cases hc : c = a
        · rw [hc, hu] at q; exact absurd (Option.some.inj q) (h2 _)
        · rw [upd_ne hc]; exact q
      · by_cases hc : c = a
        · rw [hc, hu] at q; exact absurd (Option.some.inj q) (h1 _)
        · rw [upd_ne hc]; exact q
theorem Inv.freeze {ks : List (Key × V)} {o : Obj} (I : Inv X pins σ H s) (hu : H a = some (.dK ks)) (ho : s.heap.get? a = some o) : Inv X pins σ (upd H a (.frz o (.dK ks))) s :=
  I.retag hu nofun nofun nofun (fun _ _ z => by cases z) ⟨ho, I.hok a _ hu⟩
theorem Inv.melt {ks : List (Key × V)} {o : Obj} (I : Inv X pins σ H s) (hu : H a = some (.frz o (.dK ks))) : Inv X pins σ (upd H a (.dK ks)) s :=
  I.retag hu nofun nofun nofun (fun o' xs z => by injection z with z1 z2; cases z2) (show ObjOk X.prog X.w H s.heap a (.frz o (.dK ks)) from I.hok a _ hu).2
end
theorem is_kV {P : Program} {w : World} {k : Key} {u : Value} (h : (mixKind P w).is k u = true) : RelV (kV k) u := by
  rw [mixKind_is] at h
  cases k with
  | inl i => cases u <;> first | (cases h; done) | (simp [keyIs, Value.isInt] at h; subst h; exact ⟨_, rfl⟩)
  | inr x => cases u <;> first | (cases h; done) | (simp [keyIs, Value.isStrOf] at h; subst h; exact ⟨_, rfl⟩)
noncomputable def Itk (d : Addr) (o : Obj) (ks : List (Key × V)) : It := ⟨fun i H => i < ks.length ∧ H d = some (.frz o (.dK ks)), fun i H x H' => H' = H ∧ ∃ p, ks[i]? = some p ∧ x = kV p.1, fun i H => ks.length ≤ i ∧ H d = some (.frz o (.dK ks))⟩
theorem frz_at {P : Program} {w : World} {H : Hp} {h : Heap} {d : Addr} {o : Obj} {ks : List (Key × V)} {es0 : Array DictEntry} {ep : Nat} (hd : o.data = .dict es0 ep) (ok : HOk P w H h) (e : H d = some (.frz o (.dK ks))) : ∃ vs, KV ks vs ∧ h.DictAt (mixKind P w) d vs ep := by
  obtain ⟨ho, _, _, vs, kv, o', es, ep', ho', ex, dat, keys, prs, nd⟩ := (show ObjOk P w H h d (.frz o (.dK ks)) from ok d _ e)
  rw [ho] at ho'
  cases ho'
  rw [hd] at dat
  cases dat
  exact ⟨vs, kv, o, _, ho, ex, hd, keys, prs, nd⟩
theorem turn_dk {P : Program} {w : World} {K : PySem.W.Frag} {tg : Expr} (it d : Addr) (o : Obj) (ks : List (Key × V)) {es0 : Array DictEntry} {ep : Nat} (hd : o.data = .dict es0 ep) : Turn P w K tg (Itk d o ks) [it] it (fun i h => h.IsKeyIter it d i ks.length ep) where
  mem := by simp
  obj := fun i h st b hb => by
    have e : b = it := by simpa using hb
    subst e
    obtain ⟨o, ho, _, hd⟩ := st
    exact ⟨o, ho, fun v z => by rw [hd] at z; cases z⟩
  keep := fun i h h' st k => st.at fun o e => k it (by simp) o e
  item := by
    intro X hP hw hK hc i pins s σ H E I hf st hg
    subst hP hw hK
    obtain ⟨f0, f1, f2, f3, f4, f5⟩ := hf it (by simp)
    obtain ⟨vs, kv, dm⟩ := frz_at hd I.hok hg.2
    have hl : ks.length = vs.length := kv.length
    have hi : i < vs.length := by rw [← hl]; exact hg.1
    have hkk : ks[i].1 = vs[i].1 := by
      have := KV.keys kv
      have h2 := congrArg (fun l => l[i]?) this
      simp only [List.getElem?_map, List.getElem?_eq_getElem hg.1, List.getElem?_eq_getElem hi] at h2
      exact Option.some.inj h2
    refine wpAny_pyNext_dict_item (by rw [← hl]; exact st) dm (List.getElem?_eq_getElem hi) fun key h' hkey hit' hs' => ?_
    have I1 : Inv X pins σ H { s with heap := h' } := I.turned (t' := s.toks) (fun b o hb e => hs'.extBut b o hb e) f0 f1 f3 f4 f5
    obtain ⟨oi, hoi, hci, hdi⟩ := id hit'
    refine ⟨_, rfl, go_of (s := { s with heap := h' }) (n := "dict_keyiterator") hoi hci hdi (by decide) ⟨kV ks[i].1, H, I1, ?_, ⟨rfl, ks[i], List.getElem?_eq_getElem hg.1, rfl⟩, by rw [← hl] at hit'; exact hit', fun b hb => (hf b hb).1⟩⟩
    rw [hkk]
    exact is_kV hkey
  done := by
    intro X hP hw hK hc i pins s σ H E I hf st hg
    subst hP hw hK
    obtain ⟨f0, f1, f2, f3, f4, f5⟩ := hf it (by simp)
    obtain ⟨vs, kv, dm⟩ := frz_at hd I.hok hg.2
    have hl : ks.length = vs.length := kv.length
    exact wpAny_pyNext_dict_end (I.ok.hd hc) (by rw [← hl]; exact st) dm (by rw [List.getElem?_eq_none]; rw [← hl]; exact hg.1) fun h' he' => ⟨rfl, I.turned (t' := s.toks) (fun b o hb e => he' b o hb e) f0 f1 f3 f4 f5⟩
  self := fun _ _ _ _ _ st h => wpAny_pyIter_keyiter st h
section
variable {X : Cx} {tg : Expr}
noncomputable def iDk (td : TE) : TI := fun σ H R => td σ H fun x H1 => ∃ a ks, x = .ref a ∧ ((H1 a = some (.dK ks) ∧ ∀ o, R (Itk a o ks) (upd H1 a (.frz o (.dK ks)))) ∨ ∃ o, H1 a = some (.frz o (.dK ks)) ∧ R (Itk a o ks) H1)
theorem pi_dk {l : Expr} {td : TE} (hl : PE X l td) : PI X tg l (iDk td) := by
  intro pins s σ H R I h
  refine thn (hl pins s σ H _ I h) fun v s1 ⟨x, H1, I1, r1, q1⟩ => ?_
  obtain ⟨a, ks, e, q⟩ := q1
  subst e
  cases r1
  have go : ∀ (H2 : Hp) (o : Obj), Inv X pins σ H2 s1 → H2 a = some (.frz o (.dK ks)) → R (Itk a o ks) H2 → wpAny (model X.prog X.w) X.A (pyIter (.ref a)) (PIE X pins σ tg R) X.xe s1 := fun H2 o I2 e2 q => by
    obtain ⟨ho, len, nsys, vs, kv, o', es, ep, ho', ex, dat, keys, prs, nd⟩ := (show ObjOk X.prog X.w H2 s1.heap a (.frz o (.dK ks)) from I2.hok a _ e2)
    rw [ho] at ho'
    cases ho'
    have hl : ks.length = vs.length := kv.length
    refine wpAny_pyIter_dict nsys (⟨o, es, ho, ex, dat, keys, prs, nd⟩ : s1.heap.DictAt (mixKind X.prog X.w) a vs ep) ?_
    refine ⟨s1.heap.objs.size, [s1.heap.objs.size], _, _, _, rfl, I2.kept (t' := s1.toks) fun b o e => Heap.get?_push_of_some _ e, turn_dk s1.heap.objs.size a o ks dat, ⟨_, Heap.get?_push_size _ rfl, rfl, by rw [hl]; rfl⟩, fun b hb => ?_, q⟩
    have e : b = s1.heap.objs.size := by simpa using hb
    subst e
    exact I2.fpOk (Nat.le_refl _) (I2.hok.fresh (Nat.le_refl _))
  rcases q with ⟨hq, q⟩ | ⟨o, hq, q⟩
  · obtain ⟨_, _, _, _, o, _, _, ho, _⟩ := (show ObjOk X.prog X.w H1 s1.heap a (.dK ks) from I1.hok a _ hq)
    exact go _ o (I1.freeze hq ho) upd_same (q o)
  · exact go _ o I1 hq q
noncomputable def Melt (H H' : Hp) : Prop := ∃ a o ks, H a = some (.frz o (.dK ks)) ∧ H' = upd H a (.dK ks)
noncomputable def sDPutM (td ty tv : TE) : TS := fun D σ H => tv σ H fun v H1 => td σ H1 fun x H2 => ty σ H2 fun y H3 => ∃ a H3' H4, x = .ref a ∧ (H3' = H3 ∨ Melt H3 H3') ∧ DPut H3' a y v H4 ∧ D.nx σ H4
theorem ps_dputM {o i value : Expr} {pos pos' : Pos} {td ty tv : TE} (hu : X.A.units + 1 < cLine) (ho : PE X o td) (hi : PE X i ty) (hv : PE X value tv) (hs : swapsWith value (some (.Subscript o i pos')) pos.line X.env = pure false) :
    PS X (.Assign [.Subscript o i pos'] value pos) (sDPutM td ty tv) := by
  intro pins s σ H D I h
  refine wpAny_Assign_Subscript (thn (hv pins s σ H _ I h) fun r s1 ⟨v, H1, I1, rv, q1⟩ => thn (ho pins s1 σ H1 _ I1 q1) fun u s2 ⟨x, H2, I2, rx, q2⟩ => thn (hi pins s2 σ H2 _ I2 q2) fun iv s3 ⟨y, H3, I3, ry, a, H3', H4, ex, m, g, q3⟩ => ?_) hs
  subst ex
  obtain rfl : u = Value.ref a := rx
  have I3' : Inv X pins σ H3' s3 := by
    rcases m with rfl | ⟨b, o', ks, e1, rfl⟩
    · exact I3
    · exact I3.melt e1
  exact d_setItem hu I3' g ry rv fun s4 I4 => ⟨σ, H4, I4, q3⟩
end
end L2
set_option Elab.async false
set_option linter.all false
set_option maxRecDepth 100000
set_option maxHeartbeats 1000000
namespace Rf
open PySem L2
mutual
inductive Tg where
  | nm (i : Nat) | tup (ts : Tgs)
inductive Tgs where
  | nil | cons (t : Tg) (ts : Tgs)
end
mutual
inductive Ex where
  | var (i : Nat) | c (x : SV) | op (o : Operator) (a b : Ex) | neg (a : Ex) | cmp (o : CmpOp) (a b : Ex) | chn (o p : CmpOp) (a b c : Ex)
  | and (a b : Ex) | or (a b : Ex) | not (a : Ex) | ife (t a b : Ex) | tup (es : Exs) | lst (es : Exs) | ix (a b : Ex) | slc (a : Ex) (lo hi : Eo)
  | call (f : Nat) (es : Exs) | bi (b : BI) (es : Exs) | mt (m : MT) (a : Ex) (es : Exs) | comp (own cn : List Str) (js : List Nat) (g : Tg) (it : Itb) (t : Eo) (e : Ex) | tyc (t : TyN) | lrng1 (a : Ex) | lrng2 (a b : Ex) | rev (a : Ex) | set0 | sadd (a e : Ex) | lenset (a : Ex) | srtset (a : Ex) | setl (a : Ex) | dctl (a : Ex) | dnew | dget (a b : Ex) | din (n : Bool) (a b : Ex) | no
inductive Exs where
  | nil | cons (e : Ex) (es : Exs)
inductive Eo where
  | no | yes (e : Ex)
inductive Itb where
  | seq (e : Ex) | rng1 (a : Ex) | rng2 (a b : Ex) | enum (e : Ex) | zip (i j : Nat) | rngT (a b : Ex) | dk (e : Ex)
end
inductive Stm where
  | asg (t : Tg) (e : Ex) | par (i j : Nat) (a b : Ex) | put (o i e : Ex) | dput (o i e : Ex) | expr (e : Ex) | iff (t : Ex) (a b : List Stm) | loop (g : Tg) (it : Itb) (b : List Stm) | whl (t : Ex) (b : List Stm)
  | ret (e : Ex) | retN | brk | cnt | pass | no
noncomputable def sOp : Operator → S2
  | .Add => sAdd
  | .Sub => sInt0 fun i j => .int (i - j)
  | .Mult => sMul
  | .FloorDiv => sInt CDiv fun i j => .int (i / j)
  | .Mod => sInt (fun _ j => 0 < j) fun i j => .int (i % j)
  | .Pow => sInt CPow fun i j => .int (i ^ j.toNat)
  | _ => fun _ _ _ _ => False
noncomputable def sCmp : CmpOp → S2
  | .Eq => sEq
  | .NotEq => sNe
  | .Lt => sInt0 fun i j => .bl (decide (i < j))
  | .LtE => sInt0 fun i j => .bl (decide (i ≤ j))
  | .Gt => sInt0 fun i j => .bl (decide (j < i))
  | .GtE => sInt0 fun i j => .bl (decide (j ≤ i))
  | .In => sIn false
  | .NotIn => sIn true
  | .Is => sIsN false
  | .IsNot => sIsN true
noncomputable def sNeg : S1
  | .int i, S, Q => Q (.int (-i)) S
  | _, _, _ => False
noncomputable def truS : SV → Sto → Option Bool
  | .bl b, _ => some b
  | .loc k, S => match S[k]? with | some (.lst xs) => some (!xs.isEmpty) | _ => none
  | _, _ => none
noncomputable def wTru (w : WE) : WT := fun ρ S Q => w ρ S fun x S' => ∃ b, truS x S' = some b ∧ Q b S'
noncomputable def wAnd (a b : WE) : WE := fun ρ S Q => a ρ S fun x S1 => ∃ c, x = .bl c ∧ if c = true then b ρ S1 Q else Q (.bl false) S1
noncomputable def wOr (a b : WE) : WE := fun ρ S Q => a ρ S fun x S1 => ∃ c, x = .bl c ∧ if c = true then Q (.bl true) S1 else b ρ S1 Q
noncomputable def wNot (a : WE) : WE := fun ρ S Q => a ρ S fun x S1 => ∃ c, x = .bl c ∧ Q (.bl (!c)) S1
noncomputable def wAndT (a b : WT) : WT := fun ρ S Q => a ρ S fun c S1 => if c = true then b ρ S1 Q else Q false S1
noncomputable def wOrT (a b : WT) : WT := fun ρ S Q => a ρ S fun c S1 => if c = true then Q true S1 else b ρ S1 Q
noncomputable def wNotT (a : WT) : WT := fun ρ S Q => a ρ S fun c S1 => Q (!c) S1
noncomputable def wIfE (t : WT) (a b : WE) : WE := fun ρ S Q => t ρ S fun c S1 => if c = true then a ρ S1 Q else b ρ S1 Q
noncomputable def wChn (s s' : S2) (a b c : WE) : WE := fun ρ S Q => a ρ S fun x S1 => b ρ S1 fun y S2 => s x y S2 fun z S3 => ∃ k, z = .bl k ∧ if k = true then c ρ S3 fun u S4 => s' y u S4 Q else Q (.bl false) S3
noncomputable abbrev WO := EnvS → Sto → (Option Int → Sto → Prop) → Prop
noncomputable def woNo : WO := fun _ S Q => Q none S
noncomputable def woYes (w : WE) : WO := fun ρ S Q => w ρ S fun x S1 => ∃ i, x = .int i ∧ Q (some i) S1
noncomputable def cutS (xs : List SV) (lo hi : Option Int) : List SV := (xs.drop (HT.sIx xs.length 0 lo)).take (HT.sIx xs.length xs.length hi - HT.sIx xs.length 0 lo)
noncomputable def sSlc : SV → Option Int → Option Int → Sto → QE → Prop
  | .loc k, lo, hi, S, Q => ∃ xs, S[k]? = some (.lst xs) ∧ Q (.loc S.length) (S ++ [.lst (cutS xs lo hi)])
  | .tup xs, lo, hi, S, Q => Q (.tup (cutS xs lo hi)) S
  | _, _, _, _, _ => False
noncomputable def wSlc (a : WE) (lo hi : WO) : WE := fun ρ S Q => a ρ S fun x S1 => lo ρ S1 fun l S2 => hi ρ S2 fun h S3 => sSlc x l h S3 Q
noncomputable abbrev WI := EnvS → Sto → ((Sto → Prop) → List SV → Sto → Prop) → Prop
noncomputable def keepS : SV → Sto → Sto → Prop
  | .loc k, S, S' => S'[k]? = S[k]?
  | _, _, _ => True
noncomputable def wiSeq (w : WE) : WI := fun ρ S R => w ρ S fun x S1 => ∃ xs, seqS x S1 = some xs ∧ R (keepS x S1) xs S1
noncomputable def rngS (lo hi : Int) : List SV := (List.range (hi - lo).toNat).map fun (i : Nat) => .int (lo + i)
noncomputable def wiRng1 (w : WE) : WI := fun ρ S R => w ρ S fun x S1 => ∃ j, x = .int j ∧ (-(2 ^ 62) ≤ j ∧ j < 2 ^ 62) ∧ R (fun _ => True) (rngS 0 j) S1
noncomputable def wiRng2 (w u : WE) : WI := fun ρ S R => w ρ S fun x S1 => u ρ S1 fun y S2 => ∃ i j, x = .int i ∧ y = .int j ∧ (-(2 ^ 62) ≤ i ∧ i < 2 ^ 62 ∧ -(2 ^ 62) ≤ j ∧ j < 2 ^ 62) ∧ R (fun _ => True) (rngS i j) S2
noncomputable def rngT (lo hi : Int) : List SV := (List.range (cnt2 lo hi)).map fun (i : Nat) => .int (lo + i * 2)
noncomputable def wiRngT (w u : WE) : WI := fun ρ S R => w ρ S fun x S1 => u ρ S1 fun y S2 => ∃ i j, x = .int i ∧ y = .int j ∧ (-(2 ^ 61) ≤ i ∧ i < 2 ^ 61 ∧ -(2 ^ 61) ≤ j ∧ j < 2 ^ 61) ∧ R (fun _ => True) (rngT i j) S2
noncomputable def enumS (xs : List SV) : List SV := (List.range xs.length).zipWith (fun (i : Nat) x => .tup [.int i, x]) xs
noncomputable def wiEnum (w : WE) : WI := fun ρ S R => w ρ S fun x S1 => ∃ xs, seqS x S1 = some xs ∧ R (keepS x S1) (enumS xs) S1
noncomputable def isTupS : SV → Bool
  | .tup _ => true
  | _ => false
noncomputable def zipS (xs ys : List SV) : List SV := xs.zipWith (fun x y => .tup [x, y]) ys
noncomputable def wiZip (i j : Nat) : WI := fun ρ S R => ∃ x y xs ys, ρ[i]? = some (some x) ∧ ρ[j]? = some (some y) ∧ seqS x S = some xs ∧ seqS y S = some ys ∧ isTupS x = isTupS y ∧ xs.length = ys.length ∧ R (fun S' => keepS x S S' ∧ keepS y S S') (zipS xs ys) S
noncomputable def wLrng1 (a : WE) : WE := fun ρ S Q => a ρ S fun x S1 => ∃ j, x = .int j ∧ (-(2 ^ 62) ≤ j ∧ j ≤ 100000) ∧ Q (.loc S1.length) (S1 ++ [.lst (rngS 0 j)])
noncomputable def wLrng2 (a b : WE) : WE := fun ρ S Q => a ρ S fun x S1 => b ρ S1 fun y S2 => ∃ i j, x = .int i ∧ y = .int j ∧ (0 ≤ i ∧ i ≤ 100000 ∧ -(2 ^ 62) ≤ j ∧ j ≤ 100000) ∧ Q (.loc S2.length) (S2 ++ [.lst (rngS i j)])
noncomputable def sRev : S1
  | .loc k, S, Q => ∃ xs, S[k]? = some (.lst xs) ∧ Q (.loc S.length) (S ++ [.lst xs.reverse])
  | _, _, _ => False
noncomputable def wSet0 : WE := fun _ S Q => Q (.loc S.length) (S ++ [.iset []])
noncomputable def insI (i : Int) (ms : List Int) : List Int := if i ∈ ms then ms else i :: ms
noncomputable def wSadd (a e : WE) : WE := fun ρ S Q => a ρ S fun x S1 => ∃ k ms, x = .loc k ∧ S1[k]? = some (.iset ms) ∧ e ρ S1 fun y S2 => ∃ i ms', y = .int i ∧ S2[k]? = some (.iset ms') ∧ ms'.length ≤ 900 ∧ Q .non (S2.set k (.iset (insI i ms')))
noncomputable def wLenset (a : WE) : WE := fun ρ S Q => a ρ S fun x S1 => ∃ xs ns, x ≠ .tup xs ∧ seqS x S1 = some xs ∧ intS xs = some ns ∧ ns.length ≤ 900 ∧ Q (.int (once ns).length) S1
noncomputable def wSrtset (a : WE) : WE := fun ρ S Q => a ρ S fun x S1 => ∃ xs ns, x ≠ .tup xs ∧ seqS x S1 = some xs ∧ intS xs = some ns ∧ ns.length < 64 ∧ Q (.loc S1.length) (S1 ++ [.lst ((srt (once ns)).map SV.int)])
noncomputable def wSetl (a : WE) : WE := fun ρ S Q => a ρ S fun x S1 => ∃ xs ns, seqS x S1 = some xs ∧ intS xs = some ns ∧ ns.length ≤ 900 ∧ Q (.loc S1.length) (S1 ++ [.iset (once ns)])
noncomputable def dval (kvs : List (Int × SV)) (i : Int) : Option SV := (kvs.find? fun p => decide (p.1 = i)).map (·.2)
noncomputable def dputL (kvs : List (Int × SV)) (i : Int) (x : SV) : List (Int × SV) := if (kvs.any fun p => decide (p.1 = i)) = true then kvs.map (fun p => if p.1 = i then (p.1, x) else p) else kvs ++ [(i, x)]
noncomputable def dctS : SV → Sto → Option (List (Int × SV))
  | .loc k, S => match S[k]? with | some (.dct kvs) => some kvs | some (.dcf _ _ kvs) => some kvs | _ => none
  | _, _ => none
noncomputable def sDget : S2 := fun x y S Q => ∃ kvs i v, dctS x S = some kvs ∧ y = .int i ∧ dval kvs i = some v ∧ Q v S
noncomputable def sDin (neg : Bool) : S2 := fun y x S Q => ∃ kvs i, dctS x S = some kvs ∧ y = .int i ∧ Q (.bl (if neg then !(dval kvs i).isSome else (dval kvs i).isSome)) S
noncomputable def dputs (kvs : List (Int × SV)) : List (Int × SV) := kvs.foldl (fun acc p => dputL acc p.1 p.2) []
noncomputable def wDctl (a : WE) : WE := fun ρ S Q => a ρ S fun x S1 => ∃ k kvs, x = .loc k ∧ S1[k]? = some (.lst (kvs.map fun (p : Int × SV) => SV.tup [.int p.1, p.2])) ∧ kvs.length ≤ 900 ∧ Q (.loc S1.length) (S1 ++ [.dct (dputs kvs)])
noncomputable def wDnew : WE := fun _ S Q => Q (.loc S.length) (S ++ [.dct []])
noncomputable def wiDk (w : WE) : WI := fun ρ S R => w ρ S fun x S1 => ∃ k kvs, x = .loc k ∧ S1[k]? = some (.dct kvs) ∧ ∀ o ks, R (fun S' => S'[k]? = some (.dcf o ks kvs)) (kvs.map fun p => .int p.1) (S1.set k (.dcf o ks kvs))
noncomputable def sPutD : SV → SV → SV → Sto → (Sto → Prop) → Prop := fun x y v S Q => ∃ k i kvs, x = .loc k ∧ y = .int i ∧ (S[k]? = some (.dct kvs) ∨ ∃ o ks, S[k]? = some (.dcf o ks kvs)) ∧ kvs.length < big ∧ Q (S.set k (.dct (dputL kvs i v)))
noncomputable def wMt (m : MT) (a : WE) (b : WA) : WE := fun ρ S Q => a ρ S fun x S1 => (∃ k xs, x = .loc k ∧ S1[k]? = some (.lst xs)) ∧ b ρ S1 fun xs S2 => sMt m x xs S2 Q
mutual
noncomputable def wTg : Tg → SV → EnvS → (EnvS → Prop) → Prop
  | .nm i, x, ρ, Q => Q (ρ.set i (some x))
  | .tup ts, .tup xs, ρ, Q => wTgs ts xs ρ Q
  | .tup _, _, _, _ => False
noncomputable def wTgs : Tgs → List SV → EnvS → (EnvS → Prop) → Prop
  | .nil, [], ρ, Q => Q ρ
  | .cons t ts, x :: xs, ρ, Q => wTg t x ρ fun ρ' => wTgs ts xs ρ' Q
  | _, _, _, _ => False
end
noncomputable def capE (k : Nat) (js : List Nat) (ρ : EnvS) : EnvS := List.replicate k none ++ js.map fun j => (ρ[j]?).join
noncomputable def wTurns (keep : Sto → Prop) (g : Tg) (t : WT) (e : WE) (ρ : EnvS) (Q : List SV → Sto → Prop) : List SV → List SV → Sto → Prop
  | [], ys, S => keep S ∧ Q ys S
  | x :: xs, ys, S => keep S ∧ wTg g x ρ fun ρ2 => t ρ2 S fun b S1 => if b = true then e ρ2 S1 fun y S2 => ys.length < big ∧ wTurns keep g t e ρ Q xs (ys ++ [y]) S2 else wTurns keep g t e ρ Q xs ys S1
noncomputable def wComp (k : Nat) (js : List Nat) (g : Tg) (i : WI) (t : WT) (e : WE) : WE := fun ρ S Q => i ρ S fun keep xs S1 => wTurns keep g t e (capE k js ρ) (fun ys S2 => Q (.loc S2.length) (S2 ++ [.lst ys])) xs [] S1
noncomputable def tt1 (w : WE) : WE × WT := (w, wTru w)
noncomputable def wBl (w : WE) : WT := fun ρ S Q => w ρ S fun x S' => ∃ b, x = .bl b ∧ Q b S'
noncomputable def tt2 (w : WE) : WE × WT := (w, wBl w)
noncomputable def wYes : WT := fun _ S Q => Q true S
mutual
noncomputable def wEx (Δ : Nat → Sn) : Ex → WE × WT
  | .var i => tt1 (wVar i)
  | .c x => tt1 (wC x)
  | .op o a b => tt1 (w2 (sOp o) (wEx Δ a).1 (wEx Δ b).1)
  | .neg a => tt1 (w1 sNeg (wEx Δ a).1)
  | .cmp o a b => tt2 (w2 (sCmp o) (wEx Δ a).1 (wEx Δ b).1)
  | .chn o p a b c => tt2 (wChn (sCmp o) (sCmp p) (wEx Δ a).1 (wEx Δ b).1 (wEx Δ c).1)
  | .and a b => (wAnd (wEx Δ a).1 (wEx Δ b).1, wAndT (wEx Δ a).2 (wEx Δ b).2)
  | .or a b => (wOr (wEx Δ a).1 (wEx Δ b).1, wOrT (wEx Δ a).2 (wEx Δ b).2)
  | .not a => (wNot (wEx Δ a).1, wNotT (wEx Δ a).2)
  | .ife t a b => (wIfE (wEx Δ t).2 (wEx Δ a).1 (wEx Δ b).1, fun _ _ _ => False)
  | .tup es => tt1 (wn sTup (wExs Δ es))
  | .lst es => tt1 (wn sLst (wExs Δ es))
  | .ix a b => tt1 (w2 sIx (wEx Δ a).1 (wEx Δ b).1)
  | .slc a lo hi => tt1 (wSlc (wEx Δ a).1 (wEo Δ lo).1 (wEo Δ hi).1)
  | .call f es => tt1 (wn (Δ f) (wExs Δ es))
  | .bi b es => tt1 (wn (sBi b) (wExs Δ es))
  | .mt m a es => tt1 (wMt m (wEx Δ a).1 (wExs Δ es))
  | .comp own _ js g it t e => tt1 (wComp own.length js g (wItb Δ it) (wEo Δ t).2 (wEx Δ e).1)
  | .tyc t => tt1 (wC (.ty t))
  | .lrng1 a => tt1 (wLrng1 (wEx Δ a).1)
  | .lrng2 a b => tt1 (wLrng2 (wEx Δ a).1 (wEx Δ b).1)
  | .rev a => tt1 (w1 sRev (wEx Δ a).1)
  | .set0 => tt1 wSet0
  | .sadd a e => tt1 (wSadd (wEx Δ a).1 (wEx Δ e).1)
  | .lenset a => tt1 (wLenset (wEx Δ a).1)
  | .srtset a => tt1 (wSrtset (wEx Δ a).1)
  | .setl a => tt1 (wSetl (wEx Δ a).1)
  | .dctl a => tt1 (wDctl (wEx Δ a).1)
  | .dnew => tt1 wDnew
  | .dget a b => tt1 (w2 sDget (wEx Δ a).1 (wEx Δ b).1)
  | .din n a b => tt2 (w2 (sDin n) (wEx Δ a).1 (wEx Δ b).1)
  | .no => (fun _ _ _ => False, fun _ _ _ => False)
noncomputable def wExs (Δ : Nat → Sn) : Exs → WA
  | .nil => waNil
  | .cons e es => waCons (wEx Δ e).1 (wExs Δ es)
noncomputable def wEo (Δ : Nat → Sn) : Eo → WO × WT
  | .no => (woNo, wYes)
  | .yes e => (woYes (wEx Δ e).1, (wEx Δ e).2)
noncomputable def wItb (Δ : Nat → Sn) : Itb → WI
  | .seq e => wiSeq (wEx Δ e).1
  | .rng1 a => wiRng1 (wEx Δ a).1
  | .rng2 a b => wiRng2 (wEx Δ a).1 (wEx Δ b).1
  | .enum e => wiEnum (wEx Δ e).1
  | .zip i j => wiZip i j
  | .rngT a b => wiRngT (wEx Δ a).1 (wEx Δ b).1
  | .dk e => wiDk (wEx Δ e).1
end
structure EndsS where
  nx : EnvS → Sto → Prop
  rt : SV → Sto → Prop
  bk : EnvS → Sto → Prop := fun _ _ => False
  ct : EnvS → Sto → Prop := fun _ _ => False
noncomputable abbrev WS := EndsS → EnvS → Sto → Prop
noncomputable def sPut : SV → SV → SV → Sto → (Sto → Prop) → Prop
  | .loc k, .int i, v, S, Q => ∃ xs j, S[k]? = some (.lst xs) ∧ ixN xs.length i = some j ∧ Q (S.set k (.lst (xs.set j v)))
  | _, _, _, _, _ => False
noncomputable def wLoop (keep : Sto → Prop) (g : Tg) (b : WS) (D : EndsS) : List SV → EnvS → Sto → Prop
  | [], ρ, S => keep S ∧ D.nx ρ S
  | x :: xs, ρ, S => keep S ∧ wTg g x ρ fun ρ2 => b { D with nx := wLoop keep g b D xs, ct := wLoop keep g b D xs, bk := D.nx } ρ2 S
noncomputable def wWhl (t : WT) (b : WS) : WS := fun D ρ S => ∃ W : Nat → EnvS → Sto → Prop, (∃ m, W m ρ S) ∧ ∀ m ρ S, W m ρ S → t ρ S fun c S1 => if c = true then
  b { D with nx := fun ρ' S' => ∃ m', m' < m ∧ W m' ρ' S', ct := fun ρ' S' => ∃ m', m' < m ∧ W m' ρ' S', bk := D.nx } ρ S1 else D.nx ρ S1
mutual
noncomputable def wSt (Δ : Nat → Sn) : Stm → WS
  | .asg t e => fun D ρ S => (wEx Δ e).1 ρ S fun x S1 => wTg t x ρ fun ρ' => D.nx ρ' S1
  | .par i j a b => fun D ρ S => (wEx Δ a).1 ρ S fun x S1 => (wEx Δ b).1 ρ S1 fun y S2 => D.nx ((ρ.set i (some x)).set j (some y)) S2
  | .put o i e => fun D ρ S => (wEx Δ e).1 ρ S fun v S1 => (wEx Δ o).1 ρ S1 fun x S2 => (wEx Δ i).1 ρ S2 fun y S3 => sPut x y v S3 fun S4 => D.nx ρ S4
  | .dput o i e => fun D ρ S => (wEx Δ e).1 ρ S fun v S1 => (wEx Δ o).1 ρ S1 fun x S2 => (wEx Δ i).1 ρ S2 fun y S3 => sPutD x y v S3 fun S4 => D.nx ρ S4
  | .expr e => fun D ρ S => (wEx Δ e).1 ρ S fun _ S1 => D.nx ρ S1
  | .iff t a b => fun D ρ S => (wEx Δ t).2 ρ S fun c S1 => if c = true then wSs Δ a D ρ S1 else wSs Δ b D ρ S1
  | .loop g it b => fun D ρ S => wItb Δ it ρ S fun keep xs S1 => wLoop keep g (wSs Δ b) D xs ρ S1
  | .whl t b => wWhl (wEx Δ t).2 (wSs Δ b)
  | .ret e => fun D ρ S => (wEx Δ e).1 ρ S D.rt
  | .retN => fun D _ S => D.rt .non S
  | .brk => fun D ρ S => D.bk ρ S
  | .cnt => fun D ρ S => D.ct ρ S
  | .pass => fun D ρ S => D.nx ρ S
  | .no => fun _ _ _ => False
noncomputable def wSs (Δ : Nat → Sn) : List Stm → WS
  | [] => fun D ρ S => D.nx ρ S
  | s :: ss => fun D ρ S => wSt Δ s { D with nx := wSs Δ ss D } ρ S
end
end Rf
set_option Elab.async false
set_option linter.all false
set_option maxRecDepth 100000
set_option maxHeartbeats 1000000
namespace Rf
open PySem L2
theorem no_of {α : Type} {P : Prop} {x : α} (h : (none : Option α) = some x) : P := nomatch h
noncomputable def relS (scope sc : Scope) : Scope := { scope with names := scope.names.map fun (n, k) => if (k == .free && sc.kind == .function && sc.names.lookup n == some .cell) then (n, .cell) else (n, k) }
noncomputable def notStar : Expr → Bool
  | .Starred .. => false
  | _ => true
theorem star_of {e : Expr} {es : List Expr} {env : Env} (h : notStar e = true) : starEach (e :: es) env = (false, eval e env) :: starEach es env := by
  cases e <;> first | rfl | cases h
theorem stars_of {env : Env} {pos : Pos} : ∀ {es : List Expr}, es.all notStar = true → (backTo pos (starEach es env)).any (·.1) = false
  | [], _ => rfl
  | e :: es, h => by
    rw [List.all_cons, Bool.and_eq_true] at h
    rw [star_of h.1]
    exact stars_of (es := es) h.2
theorem stars_all {env : Env} {pos : Pos} : ∀ {es : List Expr}, es.all notStar = true → (backTo pos (starEach es env)).all (fun x => !x.1) = true
  | [], _ => rfl
  | e :: es, h => by
    rw [List.all_cons, Bool.and_eq_true] at h
    rw [star_of h.1]
    exact stars_all (es := es) h.2
noncomputable def glo (sc : Scope) (x : Str) : Bool := sc.names.lookup x == some .globalImplicit && !(x == ("__name__" : Str)) && !(x == ("__debug__" : Str))
noncomputable def vis (sc : Scope) (x : Str) : Bool := sc.names.lookup x == some .local || sc.names.lookup x == some .cell || sc.names.lookup x == some .free
noncomputable def loc (sc : Scope) (x : Str) : Bool := sc.names.lookup x == some .local || sc.names.lookup x == some .cell
noncomputable def chkC : SV → Const → Bool
  | .non, .none => true
  | .bl a, .bool b => a == b
  | .int i, .int j => decide (i = j)
  | .str x, .str y => decide (x = y)
  | _, _ => false
noncomputable def notSlice : Expr → Bool
  | .Slice .. => false
  | _ => true
noncomputable def notSet : Expr → Bool
  | .Set .. => false
  | _ => true
noncomputable def plainT : Expr → Bool
  | .UnaryOp .Not _ _ => false
  | .BoolOp .. => false
  | .IfExp .. => false
  | .Compare .. => false
  | _ => true
noncomputable def noSuper : Expr → Bool
  | .Call (.Name _ _) [] [] _ => false
  | _ => true
noncomputable def vName : Expr → Option Str
  | .Name x _ => some x
  | _ => none
noncomputable def vConst : Expr → Option Const
  | .Constant k _ _ => some k
  | _ => none
noncomputable def vBin : Expr → Option (Expr × Operator × Expr)
  | .BinOp a o b _ => some (a, o, b)
  | _ => none
noncomputable def vUn : Expr → Option (UnaryOp × Expr)
  | .UnaryOp o a _ => some (o, a)
  | _ => none
noncomputable def vCmp : Expr → Option (Expr × List CmpOp × List Expr)
  | .Compare a os bs _ => some (a, os, bs)
  | _ => none
noncomputable def vBool : Expr → Option (BoolOp × List Expr × Pos)
  | .BoolOp o vs p => some (o, vs, p)
  | _ => none
noncomputable def vIfE : Expr → Option (Expr × Expr × Expr)
  | .IfExp t a b _ => some (t, a, b)
  | _ => none
noncomputable def vTup : Expr → Option (List Expr)
  | .Tuple es _ _ => some es
  | _ => none
noncomputable def vLst : Expr → Option (List Expr)
  | .List es _ => some es
  | _ => none
noncomputable def vSub : Expr → Option (Expr × Expr)
  | .Subscript a b _ => some (a, b)
  | _ => none
noncomputable def vSlc : Expr → Option (Option Expr × Option Expr × Option Expr)
  | .Slice l h s _ => some (l, h, s)
  | _ => none
noncomputable def vCall : Expr → Option (Expr × List Expr × List Keyword)
  | .Call f as ks _ => some (f, as, ks)
  | _ => none
noncomputable def vCallP : Expr → Nat
  | .Call _ _ _ p => p.line
  | _ => 0
noncomputable def vAttr : Expr → Option (Expr × Str × Nat)
  | .Attribute o n p => some (o, n, p.endLine)
  | _ => none
noncomputable def vComp : Expr → Option (Expr × List Comprehension × Scope)
  | .ListComp e gs s _ => some (e, gs, s)
  | _ => none
theorem vName_eq {r : Expr} {x : Str} (h : vName r = some x) : ∃ p, r = .Name x p := by cases r <;> first | (cases h; exact ⟨_, rfl⟩) | exact no_of h
theorem vConst_eq {r : Expr} {x : Const} (h : vConst r = some x) : ∃ j p, r = .Constant x j p := by cases r <;> first | (cases h; exact ⟨_, _, rfl⟩) | exact no_of h
theorem vBin_eq {r : Expr} {x : Expr × Operator × Expr} (h : vBin r = some x) : ∃ p, r = .BinOp x.1 x.2.1 x.2.2 p := by cases r <;> first | (cases h; exact ⟨_, rfl⟩) | exact no_of h
theorem vUn_eq {r : Expr} {x : UnaryOp × Expr} (h : vUn r = some x) : ∃ p, r = .UnaryOp x.1 x.2 p := by cases r <;> first | (cases h; exact ⟨_, rfl⟩) | exact no_of h
theorem vCmp_eq {r : Expr} {x : Expr × List CmpOp × List Expr} (h : vCmp r = some x) : ∃ p, r = .Compare x.1 x.2.1 x.2.2 p := by cases r <;> first | (cases h; exact ⟨_, rfl⟩) | exact no_of h
theorem vBool_eq {r : Expr} {x : BoolOp × List Expr × Pos} (h : vBool r = some x) : r = .BoolOp x.1 x.2.1 x.2.2 := by cases r <;> first | (cases h; exact rfl) | exact no_of h
theorem vIfE_eq {r : Expr} {x : Expr × Expr × Expr} (h : vIfE r = some x) : ∃ p, r = .IfExp x.1 x.2.1 x.2.2 p := by cases r <;> first | (cases h; exact ⟨_, rfl⟩) | exact no_of h
theorem vTup_eq {r : Expr} {x : List Expr} (h : vTup r = some x) : ∃ j p, r = .Tuple x j p := by cases r <;> first | (cases h; exact ⟨_, _, rfl⟩) | exact no_of h
theorem vLst_eq {r : Expr} {x : List Expr} (h : vLst r = some x) : ∃ p, r = .List x p := by cases r <;> first | (cases h; exact ⟨_, rfl⟩) | exact no_of h
theorem vSub_eq {r : Expr} {x : Expr × Expr} (h : vSub r = some x) : ∃ p, r = .Subscript x.1 x.2 p := by cases r <;> first | (cases h; exact ⟨_, rfl⟩) | exact no_of h
theorem vSlc_eq {r : Expr} {x : Option Expr × Option Expr × Option Expr} (h : vSlc r = some x) : ∃ p, r = .Slice x.1 x.2.1 x.2.2 p := by cases r <;> first | (cases h; exact ⟨_, rfl⟩) | exact no_of h
theorem vCall_eq {r : Expr} {x : Expr × List Expr × List Keyword} (h : vCall r = some x) : ∃ p, r = .Call x.1 x.2.1 x.2.2 p ∧ vCallP r = p.line := by cases r <;> first | (cases h; exact ⟨_, rfl, rfl⟩) | exact no_of h
theorem vAttr_eq {r : Expr} {x : Expr × Str × Nat} (h : vAttr r = some x) : ∃ p, r = .Attribute x.1 x.2.1 p ∧ x.2.2 = p.endLine := by cases r <;> first | (cases h; exact ⟨_, rfl, rfl⟩) | exact no_of h
theorem vComp_eq {r : Expr} {x : Expr × List Comprehension × Scope} (h : vComp r = some x) : ∃ p, r = .ListComp x.1 x.2.1 x.2.2 p := by cases r <;> first | (cases h; exact ⟨_, rfl⟩) | exact no_of h
theorem any_some {α : Type} {o : Option α} {p : α → Bool} (h : o.any p = true) : ∃ x, o = some x ∧ p x = true := by
  cases o with
  | none => cases h
  | some x => exact ⟨x, rfl, h⟩
theorem head_eq {α : Type} {l : List α} {x : α} (h : l.head? = some x) : l = x :: l.tail := by
  cases l with
  | nil => cases h
  | cons y r => cases h; rfl
noncomputable def l1 {α : Type} : List α → Option α
  | [x] => some x
  | _ => none
noncomputable def l2 {α : Type} : List α → Option (α × α)
  | [x, y] => some (x, y)
  | _ => none
theorem l1_eq {α : Type} {l : List α} {x : α} (h : l1 l = some x) : l = [x] := by
  match l, h with
  | [y], h => cases h; rfl
theorem l2_eq {α : Type} {l : List α} {x : α × α} (h : l2 l = some x) : l = [x.1, x.2] := by
  match l, h with
  | [y, z], h => cases h; rfl
noncomputable def l3 {α : Type} : List α → Option (α × α × α)
  | [x, y, z] => some (x, y, z)
  | _ => none
noncomputable def vFn (r : Expr) : Option (Str × List Expr) := (vCall r).bind fun c => if c.2.2.isEmpty then (vName c.1).map fun x => (x, c.2.1) else none
theorem vFn_eq {r : Expr} {x : Str × List Expr} (h : vFn r = some x) : ∃ p q, r = .Call (.Name x.1 p) x.2 [] q := by
  unfold vFn at h
  cases hc : vCall r with
  | none => rw [hc] at h; cases h
  | some c =>
    rw [hc] at h
    obtain ⟨q, e, _⟩ := vCall_eq hc
    simp only [Option.bind_some] at h
    by_cases hk : c.2.2.isEmpty = true
    · rw [if_pos hk] at h
      cases hn : vName c.1 with
      | none => rw [hn] at h; cases h
      | some y =>
        rw [hn] at h
        cases h
        obtain ⟨p, ep⟩ := vName_eq hn
        rw [e, ep, List.isEmpty_iff.mp hk]
        exact ⟨p, q, rfl⟩
    · rw [if_neg hk] at h; cases h
noncomputable def vMt (r : Expr) : Option (Expr × Str × List Expr) := (vCall r).bind fun c => if c.2.2.isEmpty then (vAttr c.1).bind fun a => if a.2.2 == vCallP r then some (a.1, a.2.1, c.2.1) else none else none
theorem vMt_eq {r : Expr} {x : Expr × Str × List Expr} (h : vMt r = some x) : ∃ ap cp, r = .Call (.Attribute x.1 x.2.1 ap) x.2.2 [] cp ∧ (ap.endLine == cp.line) = true := by
  unfold vMt at h
  cases hc : vCall r with
  | none => rw [hc] at h; cases h
  | some c =>
    rw [hc] at h
    obtain ⟨q, e, el⟩ := vCall_eq hc
    simp only [Option.bind_some] at h
    by_cases hk : c.2.2.isEmpty = true
    · rw [if_pos hk] at h
      cases hn : vAttr c.1 with
      | none => rw [hn] at h; cases h
      | some y =>
        rw [hn] at h
        simp only [Option.bind_some] at h
        obtain ⟨p, ep, el2⟩ := vAttr_eq hn
        by_cases hl : (y.2.2 == vCallP r) = true
        · rw [if_pos hl] at h
          cases h
          refine ⟨p, q, ?_, ?_⟩
          · rw [e, ep, List.isEmpty_iff.mp hk]
          · rw [← el2, ← el]; exact hl
        · rw [if_neg hl] at h; cases h
    · rw [if_neg hk] at h; cases h
mutual
noncomputable def chkTg (k : Nat) (N : List Str) (sc : Scope) : Tg → Expr → Bool
  | .nm i, r => (vName r).any fun x => decide (i < k) && decide (N[i]? = some x) && loc sc x
  | .tup ts, r => (vTup r).any fun es => chkTgs k N sc ts es
noncomputable def chkTgs (k : Nat) (N : List Str) (sc : Scope) : Tgs → List Expr → Bool
  | .nil, r => r.isEmpty
  | .cons t ts, r => (r.head?).any fun e => chkTg k N sc t e && notStar e && chkTgs k N sc ts r.tail
end
noncomputable def nmB (N : List Str) (sc : Scope) (i : Nat) (x : Str) : Bool := decide (N[i]? = some x) && vis sc x && !(x == ("__debug__" : Str)) && !(x == ("__classdict__" : Str))
mutual
noncomputable def chkE (T : List Str) (N : List Str) (sc : Scope) : Ex → Expr → Bool
  | .var i, r => (vName r).any fun x => nmB N sc i x
  | .c x, r => (vConst r).any fun k => chkC x k
  | .op o a b, r => (vBin r).any fun v => decide (o = v.2.1) && chkE T N sc a v.1 && chkE T N sc b v.2.2
  | .neg a, r => (vUn r).any fun v => decide (v.1 = .USub) && chkE T N sc a v.2
  | .cmp o a b, r => (vCmp r).any fun v => (l1 v.2.2).any fun rb => decide (v.2.1 = [o]) && chkE T N sc a v.1 && chkE T N sc b rb && notSet rb
  | .chn o p a b c, r => (vCmp r).any fun v => (l2 v.2.2).any fun rs => decide (v.2.1 = [o, p]) && chkE T N sc a v.1 && chkE T N sc b rs.1 && chkE T N sc c rs.2 && notSet rs.2
  | .and a b, r => (vBool r).any fun v => decide (v.1 = .And) && (v.2.1.head?).any fun x => chkE T N sc a x && (match l1 v.2.1.tail with | some y => chkE T N sc b y | none => decide (2 ≤ v.2.1.tail.length) && chkE T N sc b (.BoolOp .And v.2.1.tail v.2.2))
  | .or a b, r => (vBool r).any fun v => decide (v.1 = .Or) && (v.2.1.head?).any fun x => chkE T N sc a x && (match l1 v.2.1.tail with | some y => chkE T N sc b y | none => decide (2 ≤ v.2.1.tail.length) && chkE T N sc b (.BoolOp .Or v.2.1.tail v.2.2))
  | .not a, r => (vUn r).any fun v => decide (v.1 = .Not) && chkE T N sc a v.2
  | .ife t a b, r => (vIfE r).any fun v => chkE T N sc t v.1 && chkE T N sc a v.2.1 && chkE T N sc b v.2.2
  | .tup es, r => (vTup r).any fun rs => chkEs T N sc es rs
  | .lst es, r => (vLst r).any fun rs => chkEs T N sc es rs
  | .ix a b, r => (vSub r).any fun v => chkE T N sc a v.1 && chkE T N sc b v.2 && notSlice v.2
  | .slc _ _ _, _ => false
  | .call f es, r => (vFn r).any fun v => decide (T[f]? = some v.1) && glo sc v.1 && chkEs T N sc es v.2 && !v.2.isEmpty
  | .bi b es, r => (vFn r).any fun v => decide (b.name = v.1) && glo sc v.1 && chkEs T N sc es v.2 && !v.2.isEmpty
  | .mt m a es, r => (vMt r).any fun v => decide (v.2.1 = m.name) && noSuper v.1 && decide (v.2.2.length < 29) && chkE T N sc a v.1 && chkEs T N sc es v.2.2
  | .comp own cn js g it t e, r => (vComp r).any fun v => (l1 v.2.1).any fun c => decide (c.is_async = 0) && compOk sc v.2.2 own cn N js && chkTg own.length (own ++ cn) (relS v.2.2 sc) g c.target && chkI T N sc it c.target c.iter && notSet c.iter && chkIf T (own ++ cn) (relS v.2.2 sc) t c.ifs && chkE T (own ++ cn) (relS v.2.2 sc) e v.1
  | .tyc t, r => (vName r).any fun x => decide (x = Str.ofString t.nm) && glo sc x && decide (t ≠ .none)
  | .lrng1 a, r => (vFn r).any fun v => (l1 v.2).any fun z => (vFn z).any fun u => (l1 u.2).any fun ra => decide (v.1 = ("list" : Str)) && decide (u.1 = ("range" : Str)) && glo sc v.1 && glo sc u.1 && chkE T N sc a ra && notStar ra
  | .lrng2 _ _, _ => false
  | .rev a, r => (vSub r).any fun v => (vSlc v.2).any fun s => s.1.isNone && s.2.1.isNone && s.2.2.any fun st => (vUn st).any fun u => decide (u.1 = .USub) && (vConst u.2).any fun c => decide (c = .int 1) && chkE T N sc a v.1
  | .set0, r => (vFn r).any fun v => decide (v.1 = ("set" : Str)) && glo sc v.1 && v.2.isEmpty
  | .sadd a e, r => (vMt r).any fun v => (l1 v.2.2).any fun re => decide (v.2.1 = ("add" : Str)) && noSuper v.1 && chkE T N sc a v.1 && chkE T N sc e re && notStar re
  | .lenset a, r => (vFn r).any fun v => (l1 v.2).any fun z => (vFn z).any fun u => (l1 u.2).any fun ra => decide (v.1 = ("len" : Str)) && decide (u.1 = ("set" : Str)) && glo sc v.1 && glo sc u.1 && chkE T N sc a ra && notStar ra
  | .srtset _, _ => false
  | .setl _, _ => false
  | .dctl a, r => (vFn r).any fun v => (l1 v.2).any fun ra => decide (v.1 = ("dict" : Str)) && glo sc v.1 && chkE T N sc a ra && notStar ra
  | .dnew , _ => false
  | .dget a b, r => (vSub r).any fun v => chkE T N sc a v.1 && chkE T N sc b v.2 && notSlice v.2
  | .din _ _ _, _ => false
  | .no, _ => true
noncomputable def chkEs (T : List Str) (N : List Str) (sc : Scope) : Exs → List Expr → Bool
  | .nil, r => r.isEmpty
  | .cons e es, r => (r.head?).any fun x => chkE T N sc e x && notStar x && chkEs T N sc es r.tail
noncomputable def chkO (T : List Str) (N : List Str) (sc : Scope) : Eo → Option Expr → Bool
  | .no, r => r.isNone
  | .yes e, r => r.any fun x => chkE T N sc e x
noncomputable def chkIf (T : List Str) (N : List Str) (sc : Scope) : Eo → List Expr → Bool
  | .no, r => r.isEmpty
  | .yes e, r => (l1 r).any fun x => chkE T N sc e x
noncomputable def chkI (T : List Str) (N : List Str) (sc : Scope) : Itb → Expr → Expr → Bool
  | .seq e, _, r => chkE T N sc e r
  | .rng1 a, _, r => (vFn r).any fun v => (l1 v.2).any fun ra => decide (v.1 = ("range" : Str)) && glo sc v.1 && chkE T N sc a ra && notStar ra
  | .rng2 a b, _, r => (vFn r).any fun v => (l2 v.2).any fun ra => decide (v.1 = ("range" : Str)) && glo sc v.1 && chkE T N sc a ra.1 && notStar ra.1 && chkE T N sc b ra.2 && notStar ra.2
  | .enum e, tg, r => (vTup tg).isSome && (vFn r).any fun v => (l1 v.2).any fun a => decide (v.1 = ("enumerate" : Str)) && glo sc v.1 && chkE T N sc e a && notStar a
  | .zip _ _, _, _ => false
  | .rngT _ _, _, _ => false
  | .dk e, _, r => chkE T N sc e r
end
end Rf
set_option Elab.async false
set_option linter.all false
set_option maxRecDepth 100000
set_option maxHeartbeats 1000000
namespace Rf
open PySem L2
noncomputable def spS (K : PySem.W.Frag) (w : Sn) : Sp := fun vs H Q _ => ∃ as S xs, Ok K as H S ∧ RlAll K as H vs xs ∧ w xs S (Post K as H Q)
structure Cal (P : Program) (w : World) (K : PySem.W.Frag) (mg : Str → Option Value) (base : Heap) (k : Nat) (x : Str) (ps : List Str) (sp : Sp) : Prop where
  ex : ∃ f fd, FnOk P w K mg base CX0 k f fd ps sp ∧ mg x = some (.ref f) ∧ PySem.W.keepIn K (.ref f) = true ∧ Binds K fd ps []
structure Cok (T : List Str) (Δ : Nat → Sn) (X : Cx) (k : Nat) (N : List Str) (sc : Scope) : Prop where
  hN : X.N = N
  hs : X.env.scope = sc
  nd : N.Nodup
  calm : X.calm = true
  fn : ∀ i x, i < k → N[i]? = some x → sc.names.lookup x = some .cell → X.fn x = true
  un : X.A.units + 100 < cLine
  bl : ∀ b : BI, X.mg b.name = none
  rng : X.mg "range" = none
  enm : X.mg "enumerate" = none
  zip : X.mg "zip" = none
  st0 : X.mg "set" = none
  dc0 : X.mg "dict" = none
  ty : ∀ t : TyN, t ≠ .none → X.mg (Str.ofString t.nm) = none
  gd : X.A.guards = some []
  call : ∀ f x, T[f]? = some x → ∃ k ps, Cal X.prog X.w X.K X.mg X.base k x ps (spS X.K (Δ f)) ∧ Room k X.A
  mono : ∀ f, MonoN (Δ f)
structure Good (X : Cx) (r : Expr) (w : WE × WT) : Prop where
  pe : PE X r (lift X.K w.1)
  pt : PT X r (liftT X.K w.2)
  m : Mono w.1
  mt : MonoT w.2
  pw : ∀ op vs p, r = .BoolOp op vs p → PW X r (liftT X.K w.2)
section
variable {X : Cx} {r : Expr} {w : WE}
theorem MonoT.tru (m : Mono w) : MonoT (wTru w) := fun ρ S P P' i h => m _ _ _ _ (fun x S' ⟨b, e, q⟩ => ⟨b, e, i _ _ q⟩) h
theorem MonoT.bl (m : Mono w) : MonoT (wBl w) := fun ρ S P P' i h => m _ _ _ _ (fun x S' ⟨b, e, q⟩ => ⟨b, e, i _ _ q⟩) h
theorem truS_V {K : PySem.W.Frag} {as : List Addr} {H : Hp} {S : Sto} {x : SV} {v : V} {b : Bool} (ok : Ok K as H S) (r : Rl K as H v x) (e : truS x S = some b) : TruV K v H b := by
  cases x with
  | bl c => cases e; rw [rl_bl.mp r]; exact rfl
  | loc k =>
    unfold truS at e
    cases hs : S[k]? with
    | none => simp only [hs] at e; cases e
    | some o =>
      cases o with
      | lst xs =>
        simp only [hs] at e
        cases e
        obtain ⟨a, vs, rfl, _, ha, rr⟩ := loc_rl ok r hs
        refine .inl ⟨vs, SqL.of ha, ?_⟩
        have := rr.length
        cases vs <;> cases xs <;> first | rfl | (simp at this)
      | iset _ => simp only [hs] at e; cases e
      | dct _ => simp only [hs] at e; cases e
      | dcf _ _ _ => simp only [hs] at e; cases e
  | _ => cases e
theorem isTrue_plainT {env : Env} (h : plainT r = true) : ∀ whole, isTrue r env whole = (do let v ← whole; standAt r.pos; holding [v] (truthy v)) := by
  intro whole
  cases r <;> first | rfl | (cases h; done) | (rename_i o _ _; cases o <;> first | rfl | cases h)
theorem tru_via {K : PySem.W.Frag} (m : Mono w) : ∀ σ H Q, liftT K (wTru w) σ H Q → lift K w σ H fun x H' => ∃ k, TruV K x H' k ∧ Q k H' := by
  rintro σ H Q ⟨as, ρ, S, ok, en, h⟩
  exact ⟨as, ρ, S, ok, en, m _ _ _ _ (fun x S' ⟨b, e, q⟩ as' H' v g ok' r => ⟨b, truS_V ok' r e, q as' H' g ok'⟩) h⟩
theorem bl_via {K : PySem.W.Frag} (m : Mono w) : ∀ σ H Q, liftT K (wBl w) σ H Q → lift K w σ H fun x H' => ∃ k, x = .bl k ∧ Q k H' := by
  rintro σ H Q ⟨as, ρ, S, ok, en, h⟩
  exact ⟨as, ρ, S, ok, en, m _ _ _ _ (fun x S' ⟨b, e, q⟩ as' H' v g ok' r => ⟨b, by subst e; exact rl_bl.mp r, q as' H' g ok'⟩) h⟩
theorem Good.one (hp : PE X r (lift X.K w)) (m : Mono w) (h : plainT r = true) : Good X r (tt1 w) where
  pe := hp
  pt := pt_via _ (pt_truth hp (isTrue_plainT h)) (tru_via m)
  m := m
  mt := .tru m
  pw := fun op vs p e => by rw [e] at h; cases h
theorem never_pe {X : Cx} {r : Expr} : PE X r (lift X.K fun _ _ _ => False) := fun _ _ _ _ _ _ h => let ⟨_, _, _, _, _, z⟩ := h; z.elim
theorem never_pt {X : Cx} {r : Expr} : PT X r (liftT X.K fun _ _ _ => False) := fun _ _ _ _ _ _ h => let ⟨_, _, _, _, _, z⟩ := h; z.elim
theorem never_pw {X : Cx} {r : Expr} : PW X r (liftT X.K fun _ _ _ => False) := fun _ _ _ _ _ _ _ h => let ⟨_, _, _, _, _, z⟩ := h; z.elim
theorem Good.never : Good X r (fun _ _ _ => False, fun _ _ _ => False) := ⟨never_pe, never_pt, fun _ _ _ _ _ h => h, fun _ _ _ _ _ h => h, fun _ _ _ _ => never_pw⟩
end
theorem mono_op {o : Operator} : Mono2 (sOp o) := by
  unfold sOp
  split <;> first | exact .add | exact .int0 | exact .mul | exact .int | exact fun _ _ _ _ _ _ h => h
theorem mono_cmp {o : CmpOp} : Mono2 (sCmp o) := by
  unfold sCmp
  split <;> first | exact .eq | exact .ne | exact .int0 | exact .in' | exact .isN
section
variable {X : Cx}
theorem op_sound {o : Operator} {ra rb : Expr} {p : Pos} {wa wb : WE} (ha : PE X ra (lift X.K wa)) (hb : PE X rb (lift X.K wb)) (ma : Mono wa) (mb : Mono wb) : PE X (.BinOp ra o rb p) (lift X.K (w2 (sOp o) wa wb)) := by
  have go : ∀ {s : S2} {rr : R2}, Mono2 s → OpR X (binaryOp o) rr → Sim2 X.K s rr → PE X (.BinOp ra o rb p) (lift X.K (w2 s wa wb)) := fun ms ho sim => pe_via _ (pe_op ho ha hb) (bin_via sim ms ma mb)
  have no : PE X (.BinOp ra o rb p) (lift X.K (w2 (fun _ _ _ _ => False) wa wb)) := go (fun _ _ _ _ _ _ h => h) (rr := fun _ _ _ _ => False) (fun _ _ _ _ _ _ _ _ _ _ _ _ h => h.elim) (fun _ _ _ _ _ _ _ _ _ _ _ h => h)
  cases o with
  | Add => exact go .add op_addA sim_add
  | Sub => exact go .int0 op_sub (sim_int0 fun _ _ _ _ => rl_int.mpr rfl)
  | Mult => exact go .mul ((op_mul.or op_rep).or op_repT) sim_mul
  | FloorDiv => exact go .int op_fdiv (sim_int fun _ _ _ _ => rl_int.mpr rfl)
  | Mod => exact go .int op_mod (sim_int fun _ _ _ _ => rl_int.mpr rfl)
  | Pow => exact go .int op_pow (sim_int fun _ _ _ _ => rl_int.mpr rfl)
  | _ => exact no
theorem cmp_rule (o : CmpOp) (hu : X.A.units < cLine) : ∃ rr : R2, OpR X (compareOp o) rr ∧ Sim2 X.K (sCmp o) rr := by
  cases o with
  | Eq => exact ⟨_, op_eq.or (op_eqL hu), sim_eq⟩
  | NotEq => exact ⟨_, op_ne.or (op_neL hu), sim_ne⟩
  | Lt => exact ⟨_, op_lt, sim_int0 fun _ _ _ _ => rl_bl.mpr rfl⟩
  | LtE => exact ⟨_, op_le, sim_int0 fun _ _ _ _ => rl_bl.mpr rfl⟩
  | Gt => exact ⟨_, op_gt, sim_int0 fun _ _ _ _ => rl_bl.mpr rfl⟩
  | GtE => exact ⟨_, op_ge, sim_int0 fun _ _ _ _ => rl_bl.mpr rfl⟩
  | Is => exact ⟨_, op_isN, sim_isN⟩
  | IsNot => exact ⟨_, op_notN.or op_isNotB, sim_notN⟩
  | In => exact ⟨_, op_inA, sim_in⟩
  | NotIn => exact ⟨_, op_notInA, sim_in⟩
theorem marks_no {o : CmpOp} {r : Expr} (h : notSet r = true) : behindInMarks o r = false := by
  cases r <;> first | rfl | cases h
theorem cmp_sound {o : CmpOp} {ra rb : Expr} {p : Pos} {wa wb : WE} (hu : X.A.units < cLine) (ha : PE X ra (lift X.K wa)) (hb : PE X rb (lift X.K wb)) (ma : Mono wa) (mb : Mono wb) (hn : notSet rb = true) : Good X (.Compare ra [o] [rb] p) (tt2 (w2 (sCmp o) wa wb)) := by
  obtain ⟨rr, ho, sim⟩ := cmp_rule (X := X) o hu
  have m : Mono (w2 (sCmp o) wa wb) := .two mono_cmp ma mb
  exact { pe := pe_via _ (pe_cmpR ho ha hb (marks_no hn)) (bin_via sim mono_cmp ma mb)
          pt := pt_via _ (pt_cmpR ho ha hb (marks_no hn)) fun σ H Q h => bin_via sim mono_cmp ma mb σ H _ (bl_via m σ H Q h)
          m := m
          mt := .bl m
          pw := fun _ _ _ e => by cases e }
theorem mono_chn {o p : CmpOp} {a b c : WE} (ma : Mono a) (mb : Mono b) (mc : Mono c) : Mono (wChn (sCmp o) (sCmp p) a b c) := fun ρ S P P' i h => ma _ _ _ _ (fun x S1 h => mb _ _ _ _ (fun y S2 h => mono_cmp _ _ _ _ _ (fun z S3 ⟨k, e, q⟩ => ⟨k, e, by
  cases k with
  | true => rw [if_pos rfl] at q ⊢; exact mc _ _ _ _ (fun u S4 h => mono_cmp _ _ _ _ _ i h) q
  | false => rw [if_neg Bool.false_ne_true] at q ⊢; exact i _ _ q⟩) h) h) h
theorem chn_via {K : PySem.W.Frag} {o p : CmpOp} {r r' : R2} {a b c : WE} (s1 : Sim2 K (sCmp o) r) (s2 : Sim2 K (sCmp p) r') (ma : Mono a) (mb : Mono b) (mc : Mono c) : ∀ σ H Q, lift K (wChn (sCmp o) (sCmp p) a b c) σ H Q → tChain r r' (lift K a) (lift K b) (lift K c) σ H Q := by
  rintro σ H Q ⟨as, ρ, S, ok, en, h⟩
  refine ⟨as, ρ, S, ok, en, ma _ _ _ _ (fun x S1 h as1 H1 v g1 ok1 rv => ?_) h⟩
  refine ⟨as1, ρ, S1, ok1, en.mono g1.pre (g1.ku ok), mb _ _ _ _ (fun y S2 h as2 H2 u g2 ok2 ru => ?_) h⟩
  refine s1 as2 H2 S2 x y v u _ ok2 (Rl.mono g2.pre (g2.ku ok1) x v rv) ru (mono_cmp _ _ _ _ _ (fun z S3 ⟨k, e, q⟩ as3 H3 t g3 ok3 rt => ?_) h)
  subst e
  refine ⟨k, rl_bl.mp rt, ?_⟩
  cases k with
  | true =>
    rw [if_pos rfl] at q ⊢
    refine ⟨as3, ρ, S3, ok3, (en.mono g1.pre (g1.ku ok)).mono (g2.trans g3).pre ((g2.trans g3).ku ok1), mc _ _ _ _ (fun n S4 h as4 H4 m g4 ok4 rm => ?_) q⟩
    exact s2 as4 H4 S4 y n u m Q ok4 (Rl.mono (g3.trans g4).pre ((g3.trans g4).ku ok2) y u ru) rm (mono_cmp _ _ _ _ _ (fun f S5 hf => hf.mono (((g1.trans g2).trans g3).trans g4)) h)
  | false =>
    rw [if_neg Bool.false_ne_true] at q ⊢
    exact q as3 H3 _ ((g1.trans g2).trans g3) ok3 (rl_bl.mpr rfl)
theorem chn_sound {o q : CmpOp} {ra rb rc : Expr} {p : Pos} {wa wb wc : WE} (hu : X.A.units < cLine) (ha : PE X ra (lift X.K wa)) (hb : PE X rb (lift X.K wb)) (hc : PE X rc (lift X.K wc)) (ma : Mono wa) (mb : Mono wb) (mc : Mono wc) (hn : notSet rc = true) : Good X (.Compare ra [o, q] [rb, rc] p) (tt2 (wChn (sCmp o) (sCmp q) wa wb wc)) := by
  obtain ⟨r1, ho, sim⟩ := cmp_rule (X := X) o hu
  obtain ⟨r2, hq, sim2⟩ := cmp_rule (X := X) q hu
  have m : Mono (wChn (sCmp o) (sCmp q) wa wb wc) := mono_chn ma mb mc
  have hm : lastMarks [o, q] [rb, rc] = false := marks_no hn
  exact { pe := pe_via _ (pe_chain ho hq ha hb hc hm) (chn_via sim sim2 ma mb mc)
          pt := pt_via _ (pt_chain ho hq ha hb hc hm) fun σ H Q h => chn_via sim sim2 ma mb mc σ H _ (bl_via m σ H Q h)
          m := m
          mt := .bl m
          pw := fun _ _ _ e => by cases e }
end
end Rf
set_option Elab.async false
set_option linter.all false
set_option maxRecDepth 100000
set_option maxHeartbeats 1000000
namespace Rf
open PySem L2
section
variable {K : PySem.W.Frag}
theorem ite_imp {c : Bool} {A B A' B' : Prop} (ha : A → A') (hb : B → B') (h : if c = true then A else B) : if c = true then A' else B' := by
  cases c with
  | true => rw [if_pos rfl] at h ⊢; exact ha h
  | false => rw [if_neg Bool.false_ne_true] at h ⊢; exact hb h
theorem Mono.and {a b : WE} (ma : Mono a) (mb : Mono b) : Mono (wAnd a b) := fun ρ S P P' i h => ma _ _ _ _ (fun x S1 ⟨c, e, q⟩ => ⟨c, e, ite_imp (mb _ _ _ _ i) (i _ _) q⟩) h
theorem Mono.or {a b : WE} (ma : Mono a) (mb : Mono b) : Mono (wOr a b) := fun ρ S P P' i h => ma _ _ _ _ (fun x S1 ⟨c, e, q⟩ => ⟨c, e, ite_imp (i _ _) (mb _ _ _ _ i) q⟩) h
theorem Mono.not {a : WE} (ma : Mono a) : Mono (wNot a) := fun ρ S P P' i h => ma _ _ _ _ (fun x S1 ⟨c, e, q⟩ => ⟨c, e, i _ _ q⟩) h
theorem MonoT.and {a b : WT} (ma : MonoT a) (mb : MonoT b) : MonoT (wAndT a b) := fun ρ S P P' i h => ma _ _ _ _ (fun x S1 q => ite_imp (mb _ _ _ _ i) (i _ _) q) h
theorem MonoT.or {a b : WT} (ma : MonoT a) (mb : MonoT b) : MonoT (wOrT a b) := fun ρ S P P' i h => ma _ _ _ _ (fun x S1 q => ite_imp (i _ _) (mb _ _ _ _ i) q) h
theorem MonoT.not {a : WT} (ma : MonoT a) : MonoT (wNotT a) := fun ρ S P P' i h => ma _ _ _ _ (fun x S1 q => i _ _ q) h
theorem Mono.ifE {t : WT} {a b : WE} (mt : MonoT t) (ma : Mono a) (mb : Mono b) : Mono (wIfE t a b) := fun ρ S P P' i h => mt _ _ _ _ (fun x S1 q => ite_imp (ma _ _ _ _ i) (mb _ _ _ _ i) q) h
theorem Post.at {as as1 : List Addr} {H H1 : Hp} {Q : VK} {x : SV} {S : Sto} {v : V} (h : Post K as H Q x S) (g : Go as H as1 H1) (ok : Ok K as1 H1 S) (r : Rl K as1 H1 v x) : Q v H1 := h as1 H1 v g ok r
theorem and_via {a b : WE} (ma : Mono a) (mb : Mono b) : ∀ σ H Q, lift K (wAnd a b) σ H Q → tAndV (lift K a) (lift K b) σ H Q := by
  rintro σ H Q ⟨as, ρ, S, ok, en, h⟩
  refine ⟨as, ρ, S, ok, en, ma _ _ _ _ (fun x S1 ⟨c, e, q⟩ as1 H1 v g1 ok1 rv => ?_) h⟩
  subst e
  refine ⟨c, rl_bl.mp rv, ite_imp (fun q => ?_) (fun q => q.at g1 ok1 (rl_bl.mpr rfl)) q⟩
  exact ⟨as1, ρ, S1, ok1, en.mono g1.pre (g1.ku ok), mb _ _ _ _ (fun y S2 h => h.mono g1) q⟩
theorem or_via {a b : WE} (ma : Mono a) (mb : Mono b) : ∀ σ H Q, lift K (wOr a b) σ H Q → tOrV (lift K a) (lift K b) σ H Q := by
  rintro σ H Q ⟨as, ρ, S, ok, en, h⟩
  refine ⟨as, ρ, S, ok, en, ma _ _ _ _ (fun x S1 ⟨c, e, q⟩ as1 H1 v g1 ok1 rv => ?_) h⟩
  subst e
  refine ⟨c, rl_bl.mp rv, ite_imp (fun q => q.at g1 ok1 (rl_bl.mpr rfl)) (fun q => ?_) q⟩
  exact ⟨as1, ρ, S1, ok1, en.mono g1.pre (g1.ku ok), mb _ _ _ _ (fun y S2 h => h.mono g1) q⟩
theorem not_via {a : WE} (ma : Mono a) : ∀ σ H Q, lift K (wNot a) σ H Q → tNotV (lift K a) σ H Q := by
  rintro σ H Q ⟨as, ρ, S, ok, en, h⟩
  refine ⟨as, ρ, S, ok, en, ma _ _ _ _ (fun x S1 ⟨c, e, q⟩ as1 H1 v g1 ok1 rv => ?_) h⟩
  subst e
  exact ⟨c, rl_bl.mp rv, q.at g1 ok1 (rl_bl.mpr rfl)⟩
theorem PostT.mono {as as1 : List Addr} {H H1 : Hp} {Q : Bool → Hp → Prop} {x : Bool} {S : Sto} (h : PostT K as H Q x S) (g : Go as H as1 H1) : PostT K as1 H1 Q x S := fun as' H' g' => h as' H' (g.trans g')
theorem andT_via {a b : WT} (ma : MonoT a) (mb : MonoT b) : ∀ σ H Q, liftT K (wAndT a b) σ H Q → tAnd (liftT K a) (liftT K b) σ H Q := by
  rintro σ H Q ⟨as, ρ, S, ok, en, h⟩
  refine ⟨as, ρ, S, ok, en, ma _ _ _ _ (fun c S1 q as1 H1 g1 ok1 => ?_) h⟩
  refine ite_imp (fun q => ?_) (fun q => q as1 H1 g1 ok1) q
  exact ⟨as1, ρ, S1, ok1, en.mono g1.pre (g1.ku ok), mb _ _ _ _ (fun y S2 h => h.mono g1) q⟩
theorem orT_via {a b : WT} (ma : MonoT a) (mb : MonoT b) : ∀ σ H Q, liftT K (wOrT a b) σ H Q → tOr (liftT K a) (liftT K b) σ H Q := by
  rintro σ H Q ⟨as, ρ, S, ok, en, h⟩
  refine ⟨as, ρ, S, ok, en, ma _ _ _ _ (fun c S1 q as1 H1 g1 ok1 => ?_) h⟩
  refine ite_imp (fun q => q as1 H1 g1 ok1) (fun q => ?_) q
  exact ⟨as1, ρ, S1, ok1, en.mono g1.pre (g1.ku ok), mb _ _ _ _ (fun y S2 h => h.mono g1) q⟩
theorem notT_via {a : WT} (ma : MonoT a) : ∀ σ H Q, liftT K (wNotT a) σ H Q → tNot (liftT K a) σ H Q := by
  rintro σ H Q ⟨as, ρ, S, ok, en, h⟩
  exact ⟨as, ρ, S, ok, en, ma _ _ _ _ (fun c S1 q as1 H1 g1 ok1 => q as1 H1 g1 ok1) h⟩
theorem ifE_via {t : WT} {a b : WE} (mt : MonoT t) (ma : Mono a) (mb : Mono b) : ∀ σ H Q, lift K (wIfE t a b) σ H Q → tIf (liftT K t) (lift K a) (lift K b) σ H Q := by
  rintro σ H Q ⟨as, ρ, S, ok, en, h⟩
  refine ⟨as, ρ, S, ok, en, mt _ _ _ _ (fun c S1 q as1 H1 g1 ok1 => ?_) h⟩
  refine ite_imp (fun q => ?_) (fun q => ?_) q
  · exact ⟨as1, ρ, S1, ok1, en.mono g1.pre (g1.ku ok), ma _ _ _ _ (fun y S2 h => h.mono g1) q⟩
  · exact ⟨as1, ρ, S1, ok1, en.mono g1.pre (g1.ku ok), mb _ _ _ _ (fun y S2 h => h.mono g1) q⟩
end
section
variable {X : Cx}
theorem pw_via {e : Expr} {t : TT} (t' : TT) (h : PW X e t) (imp : ∀ σ H Q, t' σ H Q → t σ H Q) : PW X e t' := fun wh pins s σ H Q I hw => h wh pins s σ H Q I (imp σ H Q hw)
theorem and_sound2 {x y : Expr} {p : Pos} {a b : WE × WT} (ha : Good X x a) (hb : Good X y b) : Good X (.BoolOp .And [x, y] p) (wAnd a.1 b.1, wAndT a.2 b.2) :=
  have pw : PW X (.BoolOp .And [x, y] p) (liftT X.K (wAndT a.2 b.2)) := pw_via _ (pw_and ha.pt (pw_and1 hb.pt)) (andT_via ha.mt hb.mt)
  { pe := pe_via _ (pe_and ha.pe (pe_one hb.pe)) (and_via ha.m hb.m), pt := pw.pt, m := .and ha.m hb.m, mt := .and ha.mt hb.mt, pw := fun _ _ _ _ => pw }
theorem and_sound3 {x y z : Expr} {zs : List Expr} {p : Pos} {a b : WE × WT} (ha : Good X x a) (hb : Good X (.BoolOp .And (y :: z :: zs) p) b) : Good X (.BoolOp .And (x :: y :: z :: zs) p) (wAnd a.1 b.1, wAndT a.2 b.2) :=
  have pw : PW X (.BoolOp .And (x :: y :: z :: zs) p) (liftT X.K (wAndT a.2 b.2)) := pw_via _ (pw_and ha.pt (hb.pw _ _ _ rfl)) (andT_via ha.mt hb.mt)
  { pe := pe_via _ (pe_and ha.pe hb.pe) (and_via ha.m hb.m), pt := pw.pt, m := .and ha.m hb.m, mt := .and ha.mt hb.mt, pw := fun _ _ _ _ => pw }
theorem or_sound2 {x y : Expr} {p : Pos} {a b : WE × WT} (ha : Good X x a) (hb : Good X y b) : Good X (.BoolOp .Or [x, y] p) (wOr a.1 b.1, wOrT a.2 b.2) :=
  have pw : PW X (.BoolOp .Or [x, y] p) (liftT X.K (wOrT a.2 b.2)) := pw_via _ (pw_or ha.pt (pw_or1 hb.pt)) (orT_via ha.mt hb.mt)
  { pe := pe_via _ (pe_or ha.pe (pe_one hb.pe)) (or_via ha.m hb.m), pt := pw.pt, m := .or ha.m hb.m, mt := .or ha.mt hb.mt, pw := fun _ _ _ _ => pw }
theorem or_sound3 {x y z : Expr} {zs : List Expr} {p : Pos} {a b : WE × WT} (ha : Good X x a) (hb : Good X (.BoolOp .Or (y :: z :: zs) p) b) : Good X (.BoolOp .Or (x :: y :: z :: zs) p) (wOr a.1 b.1, wOrT a.2 b.2) :=
  have pw : PW X (.BoolOp .Or (x :: y :: z :: zs) p) (liftT X.K (wOrT a.2 b.2)) := pw_via _ (pw_or ha.pt (hb.pw _ _ _ rfl)) (orT_via ha.mt hb.mt)
  { pe := pe_via _ (pe_or ha.pe hb.pe) (or_via ha.m hb.m), pt := pw.pt, m := .or ha.m hb.m, mt := .or ha.mt hb.mt, pw := fun _ _ _ _ => pw }
theorem not_sound {x : Expr} {p : Pos} {a : WE × WT} (ha : Good X x a) : Good X (.UnaryOp .Not x p) (wNot a.1, wNotT a.2) where
  pe := pe_via _ (pe_not ha.pe) (not_via ha.m)
  pt := pt_via _ (pt_not ha.pt) (notT_via ha.mt)
  m := .not ha.m
  mt := .not ha.mt
  pw := fun _ _ _ e => by cases e
theorem ife_sound {t x y : Expr} {p : Pos} {c a b : WE × WT} (hc : Good X t c) (ha : Good X x a) (hb : Good X y b) : Good X (.IfExp t x y p) (wIfE c.2 a.1 b.1, fun _ _ _ => False) where
  pe := pe_via _ (pe_ifExp hc.pt ha.pe hb.pe) (ifE_via hc.mt ha.m hb.m)
  pt := never_pt
  m := .ifE hc.mt ha.m hb.m
  mt := fun _ _ _ _ _ h => h
  pw := fun _ _ _ e => by cases e
theorem var_pe {i : Nat} {x : Str} {p : Pos} {N : List Str} {sc : Scope} {T : List Str} {Δ : Nat → Sn} {k : Nat} (C : Cok T Δ X k N sc) (hi : N[i]? = some x) (hv : vis sc x = true) (h1 : (x == ("__debug__" : Str)) = false) (h2 : (x == ("__classdict__" : Str)) = false) : PE X (.Name x p) (tVar i) := by
  have hv' : Vis X.env.scope x := by
    rw [C.hs]
    unfold vis at hv
    simp only [Bool.or_eq_true, beq_iff_eq] at hv
    rcases hv with (hv | hv) | hv
    · exact .inl hv
    · exact .inr (.inl hv)
    · exact .inr (.inr hv)
  exact pe_var (i := i) (by rw [C.hN]; exact hi) hv' h1 h2
theorem c_sound {x : SV} {k : Const} {j : Nat} {p : Pos} (h : chkC x k = true) : Good X (.Constant k j p) (tt1 (wC x)) := by
  refine .one ?_ .c rfl
  unfold chkC at h
  split at h
  · exact pe_via _ pe_non (c_via fun _ _ => rl_non.mpr rfl)
  · rw [beq_iff_eq] at h; subst h; exact pe_via _ pe_bl (c_via fun _ _ => rl_bl.mpr rfl)
  · have h := of_decide_eq_true h; subst h; exact pe_via _ pe_int (c_via fun _ _ => rl_int.mpr rfl)
  · have h := of_decide_eq_true h; subst h; exact pe_via _ pe_str (c_via fun _ _ => rl_str.mpr rfl)
  · cases h
theorem mono_neg : Mono1 sNeg := fun x S P P' i h => by
  unfold sNeg at h ⊢
  split at h
  · exact i _ _ h
  · exact h.elim
theorem neg_sound {x : Expr} {p : Pos} {a : WE × WT} (ha : Good X x a) : Good X (.UnaryOp .USub x p) (tt1 (w1 sNeg a.1)) := by
  refine .one (pe_via _ (pe_un un_neg ha.pe) (un_via (fun as H S x v Q ok r h => ?_) mono_neg ha.m)) (.one mono_neg ha.m) rfl
  unfold sNeg at h
  split at h
  · exact ⟨_, rl_int.mp r, h.here ok (rl_int.mpr rfl)⟩
  · exact h.elim
theorem plainIx_of {b : Expr} (h : notSlice b = true) : PlainIx b := fun o i => by cases b <;> first | rfl | cases h
theorem ix_sound {x y : Expr} {p : Pos} {a b : WE × WT} (ha : Good X x a) (hb : Good X y b) (h : notSlice y = true) : Good X (.Subscript x y p) (tt1 (w2 sIx a.1 b.1)) :=
  .one (pe_via _ (pe_ix (ix_list.or ix_tup) ha.pe hb.pe (plainIx_of h)) (bin_via sim_ix .ix ha.m hb.m)) (.two .ix ha.m hb.m) rfl
noncomputable def PostO (K : PySem.W.Frag) (as : List Addr) (H : Hp) (Q : Option Int → Hp → Prop) : Option Int → Sto → Prop := fun b S' => ∀ as' H', Go as H as' H' → Ok K as' H' S' → Q b H'
noncomputable def liftO (K : PySem.W.Frag) (w : WO) : St → Hp → (Option Int → Hp → Prop) → Prop := fun σ H Q => ∃ as ρ S, Ok K as H S ∧ EnvOk K as H σ ρ ∧ w ρ S (PostO K as H Q)
noncomputable def MonoO (w : WO) : Prop := ∀ ρ S (P P' : Option Int → Sto → Prop), (∀ x S', P x S' → P' x S') → w ρ S P → w ρ S P'
theorem MonoO.no : MonoO woNo := fun _ _ _ _ i h => i _ _ h
theorem MonoO.yes {w : WE} (m : Mono w) : MonoO (woYes w) := fun _ _ _ _ i h => m _ _ _ _ (fun x S1 ⟨k, e, q⟩ => ⟨k, e, i _ _ q⟩) h
theorem po_no : PO X none (liftO X.K woNo) := fun pins s σ H Q I ⟨as, ρ, S, ok, en, h⟩ => po_none pins s σ H Q I (h as H (Go.refl _ _) ok)
theorem po_yes {x : Expr} {a : WE × WT} (ha : Good X x a) : PO X (some x) (liftO X.K (woYes a.1)) := fun pins s σ H Q I ⟨as, ρ, S, ok, en, h⟩ =>
  po_some ha.pe pins s σ H Q I ⟨as, ρ, S, ok, en, ha.m _ _ _ _ (fun y S1 ⟨k, e, q⟩ as1 H1 v g1 ok1 rv => ⟨k, by subst e; exact rl_int.mp rv, q as1 H1 g1 ok1⟩) h⟩
theorem mono_slc {x : SV} {lo hi : Option Int} {S : Sto} {P P' : QE} (i : ∀ x S', P x S' → P' x S') (h : sSlc x lo hi S P) : sSlc x lo hi S P' := by
  unfold sSlc at h ⊢
  split at h
  · obtain ⟨xs, a, b⟩ := h; exact ⟨xs, a, i _ _ b⟩
  · exact i _ _ h
  · exact h.elim
end
end Rf
set_option Elab.async false
set_option linter.all false
set_option maxRecDepth 100000
set_option maxHeartbeats 1000000
namespace L2
open PySem PySem.Spec PyProof.Rows
section
variable {X : Cx} {pins : List (Addr × Obj)} {σ : St} {H : Hp} {s : Shared} {E : XK} {Ex : Value → Shared → Prop}
end
end L2
set_option Elab.async false
set_option linter.all false
set_option maxRecDepth 100000
set_option maxHeartbeats 4000000
namespace L2
open PySem PySem.Spec PyProof.Rows
theorem entry_dul : entryFor table "dict.update.loop" = some Builtin.«dict.update.loop» := entryFor_of_tree (by kernel_rfl)
theorem plain_dul : plainId "dict.update.loop" = true := by decide +kernel
theorem keys_miss : typeLookup (.type "list") "keys" = pure none := am_miss_of_fast (by kernel_rfl)
section
variable {prog : Program} {w : World} {A : Around} {E : Value → Shared → Prop} {s : Shared}
theorem keys_none {a : Addr} {xs : Array Value} {Q : Option Value → Shared → Prop} (hl : PlainL s.heap a xs) (hA : A.handled = none)
    (h : ∀ h' tk, (∀ b ob, s.heap.get? b = some ob → h'.get? b = some ob) → Q none { s with heap := h', toks := tk }) : wpAny (model prog w) A (getAttr? (.ref a) "keys") Q E s := by
  obtain ⟨⟨c, dct, dat, sl⟩, k, hx, hc, hd, hdat⟩ := hl
  simp only at hc hdat hd
  subst hc hdat hd
  obtain ⟨hp, g, d, tk, os⟩ := s
  have hT : ∀ tk', (⟨hp, g, d, tk', os⟩ : Shared).TypeIs (.ref a) "list" := fun _ => ⟨_, hx, rfl⟩
  have f1 := sub_AttributeError
  have f3 := F.slot_list_getattribute.lookup
  have f4 := F.slot_list_getattribute.bind (.ref a)
  have f5 := am_list_getattr_none
  unfold getAttr? getAttrBy? getAttrBy
  repeat (any_goals (first | assumption | exact hT _ | ((with_reducible show wpAny _ _ (call (Value.builtin "list.__getattribute__") _ _) _ _ _); refine call_meets F.slot_list_getattribute (hT _) am_entry_list_getattribute (F.args_list_getattribute_2 _ _) (meets_getattribute_miss_list a xs k sl "keys" _ keys_miss (by decide +kernel) (by size_fits)) ⟨hx, hA, fun h' tk' e hx' => ?_⟩) | wp_step))
  obtain ⟨t', u', he⟩ := hx'.there
  show wpAny _ _ (getattributeRaised _ _ _ _ _ _ _) _ _ _
  unfold getattributeRaised
  repeat (any_goals (first | assumption | wp_step))
  exact h _ _ hx'.keeps
end
section
variable {prog : Program} {w : World} {A : Around} {R : Result → Shared → Prop} {I : Addr} {fp wr : List Addr} {G : Array GenState → Array GenState → Prop} {n : Nat} {P : Nat → Value → Prop} {St : Nat → Shared → Prop}
noncomputable def TupsAt (prog : Program) (w : World) (h : Heap) (n : Nat) (ta : Nat → Addr) (kv : Nat → Key × Value) : Prop := ∀ i, i < n → ∃ key, (mixKind prog w).is (kv i).1 key = true ∧ h.IsTuple (ta i) #[key, (kv i).2]
theorem TupsAt.keep {h h' : Heap} {ta : Nat → Addr} {kv : Nat → Key × Value} (t : TupsAt prog w h n ta kv) (k : ∀ i o, i < n → h.get? (ta i) = some o → h'.get? (ta i) = some o) : TupsAt prog w h' n ta kv := fun i hi => by
  obtain ⟨key, hk, o, ho, r⟩ := t i hi
  exact ⟨key, hk, o, k i o hi ho, r⟩
theorem updD (W : WalksS prog w A.in1 I fp wr G n P St) (d : Addr) (hdf : d ∉ fp) (ta : Nat → Addr) (kv : Nat → Key × Value) (hval : ∀ i v, i < n → P i v → v = .ref (ta i)) (hta : ∀ i, i < n → ta i ∉ wr ∧ ta i ≠ d) (hb : n ≤ sizeLine) :
    ∀ (k i : Nat) (s : Shared) (j : Int) (tj : Tok), i + k = n → St i s → TupsAt prog w s.heap n ta kv → s.heap.DictOf (mixKind prog w) d (merged [] ((List.range i).map kv)) →
      (∀ s', Moved (d :: wr) G s s' → s'.heap.DictOf (mixKind prog w) d (merged [] ((List.range n).map kv)) → R (.ok (.ret .none)) s') →
      codeAny (model prog w) A (.builtin "dict.update.loop" ⟨[.ref d, .ref I, .int j tj, .none], []⟩) R s := by
  have nw : d ∉ wr := fun z => hdf (W.sub _ z)
  have up : ∀ b ∈ wr, b ∈ d :: wr := fun b hb => List.mem_cons_of_mem _ hb
  intro k
  induction k with
  | zero =>
    intro i s j tj hk hst hT hX hR
    obtain rfl : i = n := hk
    refine codeAny_builtin entry_dul ?_
    rw [Around.under_plainId plain_dul _]
    refine wpAny_bind (m := pyNext (.ref I)) (W.done s _ _ hst fun s' hm => ?_)
    show wpAny _ _ (Builtin.Dict.addKeywords d [] >>= _) _ _ _
    refine wpAny_bind (wpAny_pure (wpAny_pure (hR s' (hm.mono up) ?_)))
    obtain ⟨o, es, ep, ho, r⟩ := hX
    exact ⟨o, es, ep, hm.heap d o nw ho, r⟩
  | succ k ih =>
    intro i s j tj hk hst hT hX hR
    refine codeAny_builtin entry_dul ?_
    rw [Around.under_plainId plain_dul _]
    refine wpAny_bind (m := pyNext (.ref I)) (W.item i s _ _ (by omega) hst fun v s1 hP st1 hm => ?_)
    obtain rfl := hval i v (by omega) hP
    have T1 : TupsAt prog w s1.heap n ta kv := hT.keep fun i' o hi e => hm.heap _ o (hta i' hi).1 e
    obtain ⟨key, hkey, o, ho, hc, m, hd⟩ := T1 i (by omega)
    have X1 : s1.heap.DictOf (mixKind prog w) d (merged [] ((List.range i).map kv)) := by
      obtain ⟨o, es, ep, ho, r⟩ := hX
      exact ⟨o, es, ep, hm.heap d o nw ho, r⟩
    have len : (merged [] ((List.range i).map kv)).length ≤ sizeLine := by
      have := merged_length_le [] ((List.range i).map kv)
      rw [List.length_map, List.length_range] at this
      simp at this
      omega
    refine wpAny_bind (wpAny_holding (wpAny_bind (wpAny_tryCatch ?_)))
    unfold Builtin.Dict.pairItems
    refine wpAny_bind (wpAny_typeOf (T := "tuple") ⟨o, ho, hc⟩ ?_)
    rw [if_pos (by decide)]
    refine wpAny_bind (wpAny_seqItems ho hd (wpAny_pure ?_))
    refine wpAny_holding (wpAny_dictSet_pairs hkey X1 (fun h2 X2 hsb => ?_) len)
    have X2 : h2.DictOf (mixKind prog w) d (merged [] ((List.range (i + 1)).map kv)) := by
      rw [List.range_succ, List.map_append]
      unfold merged at X2 ⊢
      rw [List.foldl_append]
      exact X2
    have oth : ∀ b o, b ≠ d → s1.heap.get? b = some o → h2.get? b = some o := fun b o hne e => (hsb.2 b hne).trans e
    refine wpAny_pure ⟨plainId_quiet plain_dul _, ih (i + 1) _ _ _ (by omega) (W.frame _ s1 _ _ st1 (Nat.le_succ _) fun b hbf o e => oth b o (fun z => hdf (z ▸ hbf)) e) (T1.keep fun i' o hi e => oth _ o (hta i' hi).2 e) X2 fun s3 m3 X3 => ?_⟩
    exact hR s3 (Moved.trans W.gtrans ((hm.mono up).then_heap (Nat.le_succ _) fun b o hb e => oth b o (fun z => hb (by rw [z]; exact List.mem_cons_self)) e) m3) X3
end
section
variable {prog : Program} {w : World} {A : Around} {E : Value → Shared → Prop} {s : Shared}
theorem callDL {l : Addr} {items : Array Value} {ta : Nat → Addr} {kv : Nat → Key × Value} {Q : Value → Shared → Prop} (hh : A.handled = none) (hl : PlainL s.heap l items) (hi : ∀ (i : Nat) (v : Value), items[i]? = some v → v = Value.ref (ta i)) (ht : TupsAt prog w s.heap items.size ta kv) (hb : items.size ≤ sizeLine)
    (h : ∀ (h' : Heap) (tk : Nat), h'.DictOf (mixKind prog w) s.heap.objs.size (merged [] ((List.range items.size).map kv)) → (∀ b o, s.heap.get? b = some o → h'.get? b = some o) → Q (.ref s.heap.objs.size) { s with heap := h', toks := tk }) :
    wpAny (model prog w) A (call (.type "dict") [.ref l]) Q E s := by
  refine callType_codes (Q₁ := fun obj s₁ => obj = .ref s.heap.objs.size ∧ s₁ = { s with heap := s.heap.push { cls := .type "dict", data := .dict #[] } }) F.kt_called_dict (F.kt_typeCall_dict_1 _) F.entry_dict_init (kt_code_dict_new _ ⟨rfl, rfl⟩) ?_
  rintro obj s₁ ⟨rfl, rfl⟩
  have hnew : (s.heap.push { cls := .type "dict", data := .dict #[] }).DictOf (mixKind prog w) s.heap.objs.size [] := Heap.DictOf.new s.heap
  obtain ⟨ol, nl, hol, cl, dl, dat⟩ := hl
  have hol' : (s.heap.push { cls := .type "dict", data := .dict #[] }).get? l = some ol := Heap.get?_push_of_some _ hol
  refine ⟨hnew.typeIs, F.args_dict_init_2 _ _, ?_⟩
  unfold Builtin.«dict.__init__»
  refine wpAny_bind ?_
  unfold Builtin.Dict.selfAndRest
  refine wpAny_bind (wpAny_notOrdered_dict hnew.typeIs ?_)
  show wpAny _ _ (pure (s.heap.objs.size, [Value.ref l])) _ _ _
  refine wpAny_pure ?_
  show wpAny _ _ (Builtin.Dict.updateFrom "dict.__init__" s.heap.objs.size (.ref l) [] .none) _ _ _
  unfold Builtin.Dict.updateFrom
  refine wpAny_bind (wpAny_typeOf (T := "list") ⟨ol, hol', cl⟩ ?_)
  rw [if_pos (by decide)]
  refine wpAny_bind (keys_none ⟨ol, nl, hol', cl, dl, dat⟩ (by simp [hh]) fun h1 tk1 keep1 => ?_)
  simp only [Option.isNone, if_true]
  refine wpAny_bind (wpAny_rule ?_)
  have lS : l < s.heap.objs.size := Heap.lt_size hol
  have dS : h1.get? s.heap.objs.size = some { cls := .type "dict", data := .dict #[] } := keep1 _ _ (Heap.get?_push_size _ rfl)
  have lH : h1.get? l = some ol := keep1 _ _ hol'
  have hl1 : h1.IsList l items := ⟨ol, lH, cl, nl, dat⟩
  refine wpAny_bind (wpAny_pyIter_list hl1 ?_)
  have z1 : s.heap.objs.size < h1.objs.size := Heap.lt_size dS
  have lI : l ≠ h1.objs.size := Nat.ne_of_lt (Heap.lt_size lH)
  have hSf : s.heap.objs.size ∉ [h1.objs.size, l] := by
    intro z
    rcases List.mem_cons.mp z with z | z
    · exact absurd z (Nat.ne_of_lt z1)
    · exact absurd (List.mem_singleton.mp z) (Nat.ne_of_gt lS)
  have T1 : TupsAt prog w h1 items.size ta kv := ht.keep fun i o _ e => keep1 _ _ (Heap.get?_push_of_some _ e)
  have hta : ∀ i, i < items.size → ta i ∉ [h1.objs.size] ∧ ta i ≠ s.heap.objs.size := fun i hi => by
    obtain ⟨_, _, o, ho, _⟩ := ht i hi
    have lt := Heap.lt_size ho
    exact ⟨fun z => absurd (List.mem_singleton.mp z) (Nat.ne_of_lt (Nat.lt_trans lt z1)), Nat.ne_of_lt lt⟩
  refine wpAny_pure ⟨plainId_quiet plain_dul _, ?_⟩
  refine updD ((Walks.list (by simp [hh]) _ l lI items).toS) s.heap.objs.size hSf ta kv (fun i v _ hv => hi i v hv) hta hb items.size 0 _ _ _ (Nat.zero_add _)
    ⟨⟨_, Heap.get?_push_size _ rfl, rfl, rfl⟩, hl1.push _⟩ (T1.keep fun i o _ e => Heap.get?_push_of_some _ e) ?_ fun s' hm X' => ?_
  · obtain ⟨o, es, ep, ho, r⟩ := hnew
    exact ⟨o, es, ep, Heap.get?_push_of_some _ (keep1 _ _ ho), r⟩
  · obtain ⟨h', g', d', tk', os'⟩ := s'
    obtain rfl : g' = s.gens := hm.gens
    obtain rfl : d' = s.drawn := hm.drawn
    obtain rfl : os' = s.os := hm.os
    refine ⟨rfl, h h' tk' X' fun b o e => hm.heap b o (fun z => ?_) (Heap.get?_push_of_some _ (keep1 _ _ (Heap.get?_push_of_some _ e)))⟩
    have lt := Heap.lt_size e
    rcases List.mem_cons.mp z with z | z
    · exact absurd z (Nat.ne_of_lt lt)
    · exact absurd (List.mem_singleton.mp z) (Nat.ne_of_lt (Nat.lt_trans lt z1))
end
section
variable {X : Cx}
theorem tups_of {pins : List (Addr × Obj)} {σ : St} {H : Hp} {s : Shared} (I : Inv X pins σ H s) : ∀ (ts : List (Addr × Int × V)), (∀ t ∈ ts, H t.1 = some (.tup [.int t.2.1, t.2.2])) → ∃ rs : List (Key × Value), KV (ts.map fun t => ((.inl t.2.1 : Key), t.2.2)) rs ∧ ∀ (i : Nat) (t : Addr × Int × V), ts[i]? = some t → ∃ key r, rs[i]? = some r ∧ (mixKind X.prog X.w).is r.1 key = true ∧ s.heap.IsTuple t.1 #[key, r.2]
  | [], _ => ⟨[], .nil, fun i t e => by cases e⟩
  | t :: ts, ht => by
    obtain ⟨rs, kv, h⟩ := tups_of I ts fun u hu => ht u (List.mem_cons_of_mem _ hu)
    obtain ⟨vs, rv, pt, _⟩ := I.tuple (.inl (.inl (ht t (List.mem_cons_self ..))))
    obtain ⟨u, v, rfl, ru, rv2⟩ := vals2 rv
    obtain ⟨tk, rfl⟩ := ru
    refine ⟨(.inl t.2.1, v) :: rs, .cons ⟨rfl, rv2⟩ kv, fun i t' e => ?_⟩
    cases i with
    | zero =>
      obtain rfl : t = t' := Option.some.inj e
      exact ⟨_, _, rfl, mixKind_int _ _ _ _, pt⟩
    | succ i => exact h i t' e
theorem refs_at : ∀ {ts : List (Addr × Int × V)} {its : List Value}, Vals (ts.map fun t => V.ref t.1) its → ∀ (i : Nat) (v : Value), its[i]? = some v → v = Value.ref ((ts.getD i (0, 0, .non)).1)
  | [], its, r, i, v, e => by cases r; cases e
  | t :: ts, its, r, i, v, e => by
    cases r with
    | cons h r =>
      cases i with
      | zero =>
        cases e
        exact h
      | succ i => exact refs_at r i v e
theorem call_dictL (hc : X.calm = true) : CallR X (.type "dict") (fun xs H Q => ∃ (p : Addr) (ts : List (Addr × Int × V)), xs = [.ref p] ∧ SqL X.K H p (ts.map fun t => V.ref t.1) ∧ (∀ t ∈ ts, H t.1 = some (.tup [.int t.2.1, t.2.2])) ∧ ts.length ≤ 900 ∧ ∀ l, H l = none → Q (.ref l) (upd H l (.dK (mergeK [] (ts.map fun t => ((.inl t.2.1 : Key), t.2.2)))))) := by
  intro pins s σ H xs us Q I r h
  obtain ⟨p, ts, rfl, hq, ht, h9, q⟩ := h
  obtain ⟨u, rfl, rx⟩ := vals1 r
  cases rx
  obtain ⟨its, r', pl, hz⟩ := I.list hq
  have hlen := r'.length
  rw [List.length_map] at hlen
  obtain ⟨rs, kv, tp⟩ := tups_of I ts ht
  have hr : rs.length = ts.length := by have := KV.length kv; rw [List.length_map] at this; exact this.symm
  have ref : ∀ (i : Nat) (v : Value), its[i]? = some v → v = Value.ref ((ts.getD i (0, 0, .non)).1) := refs_at r'
  have e1 : (List.range its.toArray.size).map (fun i => rs.getD i (.inl 0, .none)) = rs := by
    apply List.ext_getElem
    · simp; omega
    · intro i h1 h2
      simp [List.getElem?_eq_getElem h2]
  refine callDL (items := its.toArray) (ta := fun i => (ts.getD i (0, 0, .non)).1) (kv := fun i => rs.getD i (.inl 0, .none)) (I.ok.hd hc) pl (fun i v e => ref i v (by simpa using e)) (fun i hi => ?_) (by simp only [List.size_toArray]; rw [sizeLine_eq]; omega) fun h' tk X' hk => ?_
  · simp only [List.size_toArray] at hi
    have hi : i < ts.length := by omega
    obtain ⟨key, r, e, k1, k2⟩ := tp i ts[i] (List.getElem?_eq_getElem hi)
    refine ⟨key, ?_⟩
    simp only [List.getD_eq_getElem?_getD, e, List.getElem?_eq_getElem hi, Option.getD_some]
    exact ⟨k1, k2⟩
  · rw [e1] at X'
    have mg : KV (mergeK [] (ts.map fun t => ((.inl t.2.1 : Key), t.2.2))) (merged [] rs) := KV.merge kv .nil
    have ln : (mergeK [] (ts.map fun t => ((.inl t.2.1 : Key), t.2.2))).length ≤ sizeLine := by
      rw [KV.length mg]
      have := merged_length_le [] rs
      simp at this
      rw [sizeLine_eq]; omega
    exact ⟨.ref s.heap.objs.size, _, I.laid (t' := tk) hk (Nat.le_refl _) (dk_new ln (beq_eq_false_iff_ne.mpr (Ne.symm (Nat.ne_of_lt I.big))) mg X'), rfl, q _ (I.hok.fresh (Nat.le_refl _))⟩
end
end L2
set_option Elab.async false
set_option linter.all false
set_option maxRecDepth 100000
set_option maxHeartbeats 1000000
namespace Rf
open PySem L2
structure GoodA (X : Cx) (rs : List Expr) (w : WA) : Prop where
  pa : PA X rs (liftA X.K w)
  m : MonoA w
section
variable {X : Cx}
theorem nil_sound : GoodA X [] waNil := ⟨pa_nil', .nil⟩
theorem cons_sound {x : Expr} {xs : List Expr} {a : WE × WT} {b : WA} (ha : Good X x a) (hb : GoodA X xs b) (hs : notStar x = true) : GoodA X (x :: xs) (waCons a.1 b) := ⟨pa_cons' ha.m hb.m ha.pe hb.pa (star_of hs), .cons ha.m hb.m⟩
theorem tup_sound {rs : List Expr} {j : Nat} {p : Pos} {w : WA} (h : GoodA X rs w) : Good X (.Tuple rs j p) (tt1 (wn sTup w)) := .one (pe_via _ (pe_tup h.pa) (tup_via h.m)) (.n .tup h.m) rfl
theorem lst_sound {rs : List Expr} {p : Pos} {w : WA} (h : GoodA X rs w) : Good X (.List rs p) (tt1 (wn sLst w)) := .one (pe_via _ (pe_lst h.pa) (lst_via h.m)) (.n .lst h.m) rfl
theorem call_via {K : PySem.W.Frag} {s : Sn} {w : WA} (ms : MonoN s) (m : MonoA w) : ∀ σ H Q, lift K (wn s w) σ H Q → tCall (spS K s) [] E0 (liftA K w) σ H Q := by
  rintro σ H Q ⟨as, ρ, S, ok, en, h⟩
  refine ⟨as, ρ, S, ok, en, m _ _ _ _ (fun xs S1 hs as1 H1 vs g1 ok1 rv => ?_) h⟩
  show spS K s (vs ++ []) H1 Q E0
  rw [List.append_nil]
  exact ⟨as1, S1, xs, ok1, rv, ms _ _ _ _ (fun z S3 hz => hz.mono g1) hs⟩
theorem call_sound {T : List Str} {Δ : Nat → Sn} {k f : Nat} {N : List Str} {sc : Scope} {x : Str} {y : Expr} {ys : List Expr} {p q : Pos} {w : WA} (C : Cok T Δ X k N sc) (hf : T[f]? = some x) (hg : glo sc x = true) (h : GoodA X (y :: ys) w) (hy : notStar y = true) (hs : ys.all notStar = true) : Good X (.Call (.Name x p) (y :: ys) [] q) (tt1 (wn (Δ f) w)) := by
  obtain ⟨d, ps, hC, hr⟩ := C.call f x hf
  obtain ⟨fa, fd, F, hm, hk, hb⟩ := hC.ex
  unfold glo at hg
  simp only [Bool.and_eq_true, beq_iff_eq, Bool.not_eq_true'] at hg
  have gl : Gl X x := by show X.env.scope.names.lookup x = _; rw [C.hs]; exact hg.1.1
  exact .one (pe_via _ (pe_call F hr gl hm hk hb .nil pass0 h.pa hg.2 (star_of hy) (stars_of hs)) (call_via (C.mono f) h.m)) (.n (C.mono f) h.m) rfl
theorem b_abs : bootBuiltins "abs" = some (.builtin "abs") := by decide +kernel
theorem b_min : bootBuiltins "min" = some (.builtin "min") := by decide +kernel
theorem b_max : bootBuiltins "max" = some (.builtin "max") := by decide +kernel
theorem b_len : bootBuiltins "len" = some (.builtin "len") := by decide +kernel
theorem b_all : bootBuiltins "all" = some (.builtin "all") := by decide +kernel
theorem b_int : bootBuiltins "int" = some (.type "int") := by decide +kernel
theorem b_list : bootBuiltins "list" = some (.type "list") := by decide +kernel
theorem b_isi : bootBuiltins "isinstance" = some (.builtin "isinstance") := by decide +kernel
theorem b_str : bootBuiltins "str" = some (.type "str") := by decide +kernel
theorem b_bool : bootBuiltins "bool" = some (.type "bool") := by decide +kernel
theorem b_range : bootBuiltins "range" = some (.type "range") := by decide +kernel
theorem b_set : bootBuiltins "set" = some (.type "set") := by decide +kernel
theorem b_tuple : bootBuiltins "tuple" = some (.type "tuple") := by decide +kernel
theorem bi_sound {T : List Str} {Δ : Nat → Sn} {k : Nat} {N : List Str} {sc : Scope} {b : BI} {y : Expr} {ys : List Expr} {p q : Pos} {w : WA} (C : Cok T Δ X k N sc) (hg : glo sc b.name = true) (h : GoodA X (y :: ys) w) (hy : notStar y = true) (hs : ys.all notStar = true) : Good X (.Call (.Name b.name p) (y :: ys) [] q) (tt1 (wn (sBi b) w)) := by
  unfold glo at hg
  simp only [Bool.and_eq_true, beq_iff_eq, Bool.not_eq_true'] at hg
  have gl : Gl X b.name := by show X.env.scope.names.lookup b.name = _; rw [C.hs]; exact hg.1.1
  have hm := C.bl b
  have e1 := star_of (es := ys) (env := X.env) hy
  have e2 := stars_of (env := X.env) (pos := q) hs
  refine .one (pe_via (t := tCB (rBi X.K b) (liftA X.K w)) _ ?_ (n_via sim_bi .bi h.m)) (.n .bi h.m) rfl
  cases b with
  | len => exact pe_callB call_len_seq gl hm b_len h.pa (by decide) hg.2 e1 e2
  | abs => exact pe_callB call_abs gl hm b_abs h.pa (by decide) hg.2 e1 e2
  | min => exact pe_callB (call_min2 C.calm) gl hm b_min h.pa (by decide) hg.2 e1 e2
  | max => exact pe_callB (call_max2 C.calm) gl hm b_max h.pa (by decide) hg.2 e1 e2
  | int => exact pe_callTy call_int1 gl hm b_int h.pa (by decide) hg.2 e1 e2
  | list => exact pe_callTy call_list_of gl hm b_list h.pa (by decide) hg.2 e1 e2
  | tuple => exact pe_callTy call_tuple_of gl hm b_tuple h.pa (by decide) hg.2 e1 e2
  | all => exact pe_callB (call_allB C.calm) gl hm b_all h.pa (by decide) hg.2 e1 e2
  | any => exact pe_callB (call_anyB C.calm) gl hm b_any h.pa (by decide) hg.2 e1 e2
  | sorted => exact pe_callB call_sorted gl hm b_sorted h.pa (by decide) hg.2 e1 e2
  | isi => exact pe_callB (call_isi1.or call_isiT) gl hm b_isi h.pa (by decide) hg.2 e1 e2
  | str => exact pe_callTy (call_strD C.gd C.un) gl hm b_str h.pa (by decide) hg.2 e1 e2
theorem Mono.mt {m : MT} {a : WE} {b : WA} (ma : Mono a) (mb : MonoA b) : Mono (wMt m a b) := fun ρ S P P' i h => ma _ _ _ _ (fun x S1 ⟨e, h⟩ => ⟨e, mb _ _ _ _ (fun xs S2 h => mono_mt _ _ _ _ i h) h⟩) h
theorem base_of {ro : Expr} {nm : Str} {env : Env} {wh : Sem Value} (h : noSuper ro = true) : attributeBase ro nm env wh = wh := by
  unfold attributeBase
  split
  · cases h
  · rfl
theorem loc_ty {K : PySem.W.Frag} {as : List Addr} {H : Hp} {S : Sto} {k : Nat} {v : V} {xs : List SV} (ok : Ok K as H S) (r : Rl K as H v (.loc k)) (hs : S[k]? = some (.lst xs)) : tyV K "list" v H := by
  obtain ⟨a, vs, rfl, _, h1, _⟩ := loc_rl ok r hs
  exact .inl ⟨rfl, _, SqL.of h1⟩
theorem mt_via {K : PySem.W.Frag} {m : MT} {a : WE} {b : WA} (ma : Mono a) (mb : MonoA b) : ∀ σ H Q, lift K (wMt m a b) σ H Q → tBM K "list" (rMt m) (lift K a) (liftA K b) σ H Q := by
  rintro σ H Q ⟨as, ρ, S, ok, en, h⟩
  refine ⟨as, ρ, S, ok, en, ma _ _ _ _ (fun x S1 ⟨⟨j, zs, e, hz⟩, h⟩ as1 H1 v g1 ok1 rv => ?_) h⟩
  subst e
  refine ⟨loc_ty ok1 rv hz, as1, ρ, S1, ok1, en.mono g1.pre (g1.ku ok), mb _ _ _ _ (fun xs S2 h as2 H2 vs g2 ok2 rs => ?_) h⟩
  exact sim_mt ok2 (Rl.mono g2.pre (g2.ku ok1) _ v rv) rs (mono_mt _ _ _ _ (fun z S3 hz => hz.mono (g1.trans g2)) h)
theorem mt0_via {K : PySem.W.Frag} {m : MT} {a : WE} (ma : Mono a) : ∀ σ H Q, lift K (wMt m a waNil) σ H Q → tBM0 K "list" (rMt m) (lift K a) σ H Q := by
  rintro σ H Q ⟨as, ρ, S, ok, en, h⟩
  refine ⟨as, ρ, S, ok, en, ma _ _ _ _ (fun x S1 ⟨⟨j, zs, e, hz⟩, h⟩ as1 H1 v g1 ok1 rv => ?_) h⟩
  subst e
  exact ⟨loc_ty ok1 rv hz, sim_mt ok1 rv .nil (mono_mt _ _ _ _ (fun z S3 hz => hz.mono g1) h)⟩
theorem MtR.orM {id : String} {r r' : V → List V → Hp → VK → Prop} (h : MtM X id r) (h' : MtM X id r') : MtR X id (fun x xs H Q => r x xs H Q ∨ r' x xs H Q) := fun pins s σ H x xs v us Q I rx rs q => q.elim (h pins s σ H x xs v us Q I rx rs) (h' pins s σ H x xs v us Q I rx rs)
theorem mt_sound {m : MT} {ro y : Expr} {ys : List Expr} {ap cp : Pos} {a : WE × WT} {b : WA} (ha : Good X ro a) (hb : GoodA X (y :: ys) b) (hn : noSuper ro = true) (hl : (ap.endLine == cp.line) = true) (hk : (y :: ys).length < 29) (hy : notStar y = true) (hs : ys.all notStar = true) : Good X (.Call (.Attribute ro m.name ap) (y :: ys) [] cp) (tt1 (wMt m a.1 b)) := by
  have e1 := star_of (es := ys) (env := X.env) hy
  have e2 := stars_of (env := X.env) (pos := cp) hs
  have e3 : ((backTo cp (starEach (y :: ys) X.env)).all (fun x => !x.1) && (backToKw cp (keywordEach [] X.env)).all (fun x => x.1.isSome)
      && decide ((y :: ys).length + ([] : List Keyword).length + (if ([] : List Keyword).isEmpty then 0 else 1) < 30)) = true := by
    rw [stars_all (by rw [List.all_cons, hy, hs]; rfl)]
    simp only [Bool.true_and, Bool.and_eq_true, decide_eq_true_eq]
    exact ⟨rfl, by show (y :: ys).length + 0 + 0 < 30; omega⟩
  refine .one (pe_via (t := tBM X.K "list" (rMt m) (lift X.K a.1) (liftA X.K b)) _ ?_ (mt_via ha.m hb.m)) (.mt ha.m hb.m) rfl
  cases m with
  | append => exact pe_bm PySem.F.plainAttrs_list PySem.F.slot_list_append PySem.F.type_list_append mt_append ha.pe hb.pa (base_of hn) e3 hl e1 e2
  | extend => exact pe_bm PySem.F.plainAttrs_list PySem.F.slot_list_extend PySem.F.type_list_extend mt_extend ha.pe hb.pa (base_of hn) e3 hl e1 e2
  | pop => exact pe_bm PySem.F.plainAttrs_list PySem.F.slot_list_pop PySem.F.type_list_pop (MtR.orM mt_pop mt_popAt) ha.pe hb.pa (base_of hn) e3 hl e1 e2
  | insert => exact pe_bm PySem.F.plainAttrs_list PySem.F.slot_list_insert PySem.F.type_list_insert mt_insert ha.pe hb.pa (base_of hn) e3 hl e1 e2
  | reverse => exact pe_bm PySem.F.plainAttrs_list PySem.F.slot_list_reverse PySem.F.type_list_reverse mt_reverse ha.pe hb.pa (base_of hn) e3 hl e1 e2
  | clear => exact pe_bm PySem.F.plainAttrs_list PySem.F.slot_list_clear PySem.F.type_list_clear mt_clear ha.pe hb.pa (base_of hn) e3 hl e1 e2
theorem mt0_sound {m : MT} {ro : Expr} {ap cp : Pos} {a : WE × WT} (ha : Good X ro a) (hn : noSuper ro = true) (hl : (ap.endLine == cp.line) = true) : Good X (.Call (.Attribute ro m.name ap) [] [] cp) (tt1 (wMt m a.1 waNil)) := by
  refine .one (pe_via (t := tBM0 X.K "list" (rMt m) (lift X.K a.1)) _ ?_ (mt0_via ha.m)) (.mt ha.m .nil) rfl
  cases m with
  | append => exact pe_bm0 PySem.F.plainAttrs_list PySem.F.slot_list_append PySem.F.type_list_append mt_append ha.pe (base_of hn) hl
  | extend => exact pe_bm0 PySem.F.plainAttrs_list PySem.F.slot_list_extend PySem.F.type_list_extend mt_extend ha.pe (base_of hn) hl
  | pop => exact pe_bm0 PySem.F.plainAttrs_list PySem.F.slot_list_pop PySem.F.type_list_pop (MtR.orM mt_pop mt_popAt) ha.pe (base_of hn) hl
  | insert => exact pe_bm0 PySem.F.plainAttrs_list PySem.F.slot_list_insert PySem.F.type_list_insert mt_insert ha.pe (base_of hn) hl
  | reverse => exact pe_bm0 PySem.F.plainAttrs_list PySem.F.slot_list_reverse PySem.F.type_list_reverse mt_reverse ha.pe (base_of hn) hl
  | clear => exact pe_bm0 PySem.F.plainAttrs_list PySem.F.slot_list_clear PySem.F.type_list_clear mt_clear ha.pe (base_of hn) hl
theorem tyc_sound {T : List Str} {Δ : Nat → Sn} {k : Nat} {N : List Str} {sc : Scope} {t : TyN} {p : Pos} (C : Cok T Δ X k N sc) (hg : glo sc (Str.ofString t.nm) = true) (ht : t ≠ .none) : Good X (.Name (Str.ofString t.nm) p) (tt1 (wC (.ty t))) := by
  unfold glo at hg
  simp only [Bool.and_eq_true, beq_iff_eq, Bool.not_eq_true'] at hg
  have gl : Gl X (Str.ofString t.nm) := by show X.env.scope.names.lookup _ = _; rw [C.hs]; exact hg.1.1
  have b : bootBuiltins (Str.ofString t.nm) = some (.type t.nm) := by cases t <;> first | exact b_int | exact b_bool | exact b_str | exact b_list | exact b_tuple | exact absurd rfl ht
  exact .one (pe_via _ (pe_bltn (v := .ty t.nm) gl (C.ty t ht) b rfl (by cases t <;> first | decide | exact absurd rfl ht) hg.2) (c_via fun _ _ => rl_ty.mpr rfl)) .c rfl
theorem rng_rl {K : PySem.W.Frag} {as : List Addr} {H : Hp} {lo hi : Int} : RlAll K as H (rngV lo (hi - lo).toNat) (rngS lo hi) := by
  unfold rngV rngS
  induction List.range (hi - lo).toNat with
  | nil => exact .nil
  | cons i r ih => exact .cons (rl_int.mpr rfl) ih
theorem mono_lrng1 {a : WE} (m : Mono a) : Mono (wLrng1 a) := fun ρ S P P' i h => m _ _ _ _ (fun x S1 ⟨j, e, z, q⟩ => ⟨j, e, z, i _ _ q⟩) h
theorem mono_lrng2 {a b : WE} (m : Mono a) (mb : Mono b) : Mono (wLrng2 a b) := fun ρ S P P' i h => m _ _ _ _ (fun x S1 h => mb _ _ _ _ (fun y S2 ⟨l, j, e, e2, z, q⟩ => ⟨l, j, e, e2, z, i _ _ q⟩) h) h
theorem lrng1_sound {T : List Str} {Δ : Nat → Sn} {k : Nat} {N : List Str} {sc : Scope} {r : Expr} {p p2 q q2 : Pos} {a : WE × WT} (C : Cok T Δ X k N sc) (hg : glo sc "list" = true) (hg2 : glo sc "range" = true) (ha : Good X r a) (hs : notStar r = true) : Good X (.Call (.Name "list" p) [.Call (.Name "range" p2) [r] [] q2] [] q) (tt1 (wLrng1 a.1)) := by
  unfold glo at hg hg2
  simp only [Bool.and_eq_true, beq_iff_eq, Bool.not_eq_true'] at hg hg2
  have gl : Gl X "list" := by show X.env.scope.names.lookup ("list" : Str) = _; rw [C.hs]; exact hg.1.1
  have gr : Gl X "range" := by show X.env.scope.names.lookup ("range" : Str) = _; rw [C.hs]; exact hg2.1.1
  have e1 := pe_callTy (p := p2) (pos := q2) call_rng1 gr C.rng b_range (pa_cons ha.pe pa_nil (star_of hs)) (by decide) hg2.2 (star_of hs) rfl
  refine .one (pe_via _ (pe_callTy (p := p) (pos := q) (call_listRng C.calm) gl (C.bl .list) b_list (pa_cons e1 pa_nil rfl) (by decide) hg.2 rfl rfl) ?_) (mono_lrng1 ha.m) rfl
  rintro σ H Q ⟨as, ρ, S, ok, en, h⟩
  refine ⟨as, ρ, S, ok, en, ha.m _ _ _ _ (fun x S1 ⟨j, e, z, q⟩ as1 H1 v g1 ok1 rv => ?_) h⟩
  subst e
  refine ⟨j, by rw [rl_int.mp rv], fun p hp => ⟨p, 0, j, rfl, upd_same, by decide, by decide, z.1, by omega, by omega, ?_⟩⟩
  exact post_lst (ok1.new hp) rng_rl (q.mono (g1.trans (Go.new hp)))
theorem mono_rev : Mono1 sRev := fun x S P P' i h => by
  unfold sRev at h ⊢
  split at h
  · obtain ⟨xs, e, h⟩ := h; exact ⟨xs, e, i _ _ h⟩
  · exact h.elim
theorem rev_sound {r : Expr} {j : Nat} {p p2 p3 p4 : Pos} {a : WE × WT} (ha : Good X r a) : Good X (.Subscript r (.Slice none none (some (.UnaryOp .USub (.Constant (.int 1) j p4) p3)) p2) p) (tt1 (w1 sRev a.1)) := by
  refine .one (pe_via _ (pe_rev ha.pe (po_some (pe_un un_neg pe_int))) ?_) (.one mono_rev ha.m) rfl
  rintro σ H Q ⟨as, ρ, S, ok, en, h⟩
  refine ⟨as, ρ, S, ok, en, ha.m _ _ _ _ (fun x S1 h as1 H1 v g1 ok1 rv => ?_) h⟩
  refine ⟨1, rfl, -1, rfl, rfl, ?_⟩
  cases x with
  | loc k =>
    obtain ⟨xs, h1, h2⟩ := h
    obtain ⟨b, vs, rfl, _, hb, rr⟩ := loc_rl ok1 rv h1
    exact ⟨b, vs, rfl, SqL.of hb, post_lst ok1 rr.rev (h2.mono g1)⟩
  | _ => exact False.elim h
theorem mono_set0 : Mono wSet0 := fun ρ S P P' i h => i _ _ h
theorem set0_sound {T : List Str} {Δ : Nat → Sn} {k : Nat} {N : List Str} {sc : Scope} {p q : Pos} (C : Cok T Δ X k N sc) (hg : glo sc "set" = true) : Good X (.Call (.Name "set" p) [] [] q) (tt1 wSet0) := by
  unfold glo at hg
  simp only [Bool.and_eq_true, beq_iff_eq, Bool.not_eq_true'] at hg
  have gl : Gl X "set" := by show X.env.scope.names.lookup ("set" : Str) = _; rw [C.hs]; exact hg.1.1
  refine .one (pe_via _ (pe_callTy0 (p := p) (pos := q) call_set0 gl C.st0 b_set (by decide) hg.2) ?_) mono_set0 rfl
  rintro σ H Q ⟨as, ρ, S, ok, en, h⟩
  refine ⟨rfl, fun l hl => ?_⟩
  exact h (as ++ [l]) _ (.ref l) (Go.push hl) (ok.pushO hl ⟨_, upd_same, fun k => by simp⟩) (rl_loc.mpr ⟨l, by rw [← ok.len, List.getElem?_concat_length], rfl⟩)
theorem mono_sadd {a e : WE} (ma : Mono a) (me : Mono e) : Mono (wSadd a e) := fun ρ S P P' i h => ma _ _ _ _ (fun x S1 ⟨k, ms, e1, e2, h⟩ => ⟨k, ms, e1, e2, me _ _ _ _ (fun y S2 ⟨j, ms', a1, a2, a3, q⟩ => ⟨j, ms', a1, a2, a3, i _ _ q⟩) h⟩) h
theorem sadd_sound {ro r : Expr} {ap cp : Pos} {a b : WE × WT} (ha : Good X ro a) (hb : Good X r b) (hn : noSuper ro = true) (hl : (ap.endLine == cp.line) = true) (hs : notStar r = true) : Good X (.Call (.Attribute ro "add" ap) [r] [] cp) (tt1 (wSadd a.1 b.1)) := by
  have e1 := star_of (es := []) (env := X.env) hs
  have e3 : ((backTo cp (starEach [r] X.env)).all (fun x => !x.1) && (backToKw cp (keywordEach [] X.env)).all (fun x => x.1.isSome)
      && decide (([r] : List Expr).length + ([] : List Keyword).length + (if ([] : List Keyword).isEmpty then 0 else 1) < 30)) = true := by
    rw [stars_all (by simpa using hs)]; rfl
  refine .one (pe_via _ (pe_bm PySem.F.plainAttrs_set PySem.F.slot_set_add PySem.F.type_set_add mt_add ha.pe (pa_cons hb.pe pa_nil e1) (base_of hn) e3 hl e1 rfl) ?_) (mono_sadd ha.m hb.m) rfl
  rintro σ H Q ⟨as, ρ, S, ok, en, h⟩
  refine ⟨as, ρ, S, ok, en, ha.m _ _ _ _ (fun x S1 ⟨k, ms, ex, hk, h⟩ as1 H1 v g1 ok1 rv => ?_) h⟩
  subst ex
  obtain ⟨c, ec, rfl⟩ := rl_loc.mp rv
  obtain ⟨F, hF, _⟩ := ok1.obj k _ c hk ec
  refine ⟨.inr (.inr (.inr ⟨rfl, F, _, hF⟩)), as1, ρ, S1, ok1, en.mono g1.pre (g1.ku ok), hb.m _ _ _ _ (fun y S2 ⟨i, ms', ey, hk2, h9, q⟩ as2 H2 u g2 ok2 ru => ?_) h⟩
  subst ey
  have ec2 := pre_get g2.pre ec
  obtain ⟨F2, hF2, hd⟩ := ok2.obj k _ c hk2 ec2
  refine ⟨c, F2, _, i, rfl, by rw [rl_int.mp ru], hF2, h9, ?_⟩
  have len : (if F2 i = true then ms'.length else ms'.length + 1) = (insI i ms').length := by
    rw [hd]
    unfold insI
    by_cases hm : i ∈ ms'
    · rw [if_pos hm, if_pos (decide_eq_true hm)]
    · rw [if_neg hm, if_neg (by simpa using hm)]; rfl
  obtain ⟨ok3, ku⟩ := ok2.writeO (x := .iset (insI i ms')) (u := .set (fun j => F2 j || decide (j = i)) (if F2 i = true then ms'.length else ms'.length + 1)) hk2 ec2 (fun _ => ⟨_, by rw [upd_same, len], fun j => by
    rw [hd]
    unfold insI
    by_cases hm : i ∈ ms'
    · rw [if_pos hm]
      by_cases hj : j = i
      · subst hj; simp [hm]
      · simp [hj]
    · rw [if_neg hm]
      by_cases hj : j = i
      · subst hj; simp
      · simp [hj]⟩)
  exact q as2 _ _ ((g1.trans g2).trans (Go.write (List.mem_of_getElem? ec2))) ok3 (rl_non.mpr rfl)
end
section
variable {X : Cx}
theorem mono_lenset {a : WE} (m : Mono a) : Mono (wLenset a) := fun ρ S P P' i h => m _ _ _ _ (fun x S1 ⟨xs, ns, a, b, c, d, q⟩ => ⟨xs, ns, a, b, c, d, i _ _ q⟩) h
theorem mono_srtset {a : WE} (m : Mono a) : Mono (wSrtset a) := fun ρ S P P' i h => m _ _ _ _ (fun x S1 ⟨xs, ns, a, b, c, d, q⟩ => ⟨xs, ns, a, b, c, d, i _ _ q⟩) h
theorem mono_setl {a : WE} (m : Mono a) : Mono (wSetl a) := fun ρ S P P' i h => m _ _ _ _ (fun x S1 ⟨xs, ns, b, c, d, q⟩ => ⟨xs, ns, b, c, d, i _ _ q⟩) h
theorem lenset_sound {T : List Str} {Δ : Nat → Sn} {k : Nat} {N : List Str} {sc : Scope} {r : Expr} {p p2 q q2 : Pos} {a : WE × WT} (C : Cok T Δ X k N sc) (hg : glo sc "len" = true) (hg2 : glo sc "set" = true) (ha : Good X r a) (hs : notStar r = true) : Good X (.Call (.Name "len" p) [.Call (.Name "set" p2) [r] [] q2] [] q) (tt1 (wLenset a.1)) := by
  unfold glo at hg hg2
  simp only [Bool.and_eq_true, beq_iff_eq, Bool.not_eq_true'] at hg hg2
  have gl : Gl X "len" := by show X.env.scope.names.lookup ("len" : Str) = _; rw [C.hs]; exact hg.1.1
  have gr : Gl X "set" := by show X.env.scope.names.lookup ("set" : Str) = _; rw [C.hs]; exact hg2.1.1
  refine .one (pe_via _ (pe_lenset C.calm gl (C.bl .len) gr C.st0 ha.pe (star_of hs) rfl rfl rfl) ?_) (mono_lenset ha.m) rfl
  rintro σ H Q ⟨as, ρ, S, ok, en, h⟩
  refine ⟨as, ρ, S, ok, en, ha.m _ _ _ _ (fun x S1 ⟨xs, ns, h0, h1, h2, h3, q⟩ as1 H1 v g1 ok1 rv => ?_) h⟩
  obtain ⟨a, us, rfl, hq, rr⟩ := list_rl ok1 rv h0 h1
  rw [intS_rl h2 rr] at hq
  exact ⟨a, ns, rfl, hq, by unfold scanBound; omega, q as1 H1 _ g1 ok1 (rl_int.mpr rfl)⟩
end
section
variable {K : PySem.W.Frag} {as : List Addr} {H : Hp} {S : Sto}
theorem RlD.length : ∀ {kvs : List (Int × SV)} {ks : List (Key × V)}, RlD K as H ks kvs → ks.length = kvs.length
  | [], _, h => by rw [show _ = [] from h]; rfl
  | p :: r, _, ⟨v, t, e, _, h⟩ => by rw [e, List.length_cons, List.length_cons, RlD.length h]
theorem RlD.get : ∀ {kvs : List (Int × SV)} {ks : List (Key × V)} {i : Nat} {p : Int × SV}, RlD K as H ks kvs → kvs[i]? = some p → ∃ v, ks[i]? = some (.inl p.1, v)
  | q :: r, _, 0, p, ⟨v, t, e, _, _⟩, hp => by cases hp; subst e; exact ⟨v, rfl⟩
  | q :: r, _, i + 1, p, ⟨v, t, e, _, h⟩, hp => by
    subst e
    obtain ⟨u, hu⟩ := RlD.get (i := i) h (show r[i]? = some p from hp)
    exact ⟨u, hu⟩
theorem RlD.val : ∀ {kvs : List (Int × SV)} {ks : List (Key × V)}, RlD K as H ks kvs → ∀ i, (∃ x v, dval kvs i = some x ∧ valV ks (.inl i) = some v ∧ Rl K as H v x) ∨ (dval kvs i = none ∧ valV ks (.inl i) = none)
  | [], _, h, i => by rw [show _ = [] from h]; exact .inr ⟨rfl, rfl⟩
  | p :: r, _, ⟨v, t, e, h1, h2⟩, i => by
    subst e
    by_cases hp : p.1 = i
    · refine .inl ⟨p.2, v, ?_, ?_, h1⟩
      · unfold dval; rw [List.find?_cons_of_pos (by simp [hp])]; rfl
      · unfold valV; rw [List.find?_cons_of_pos (by simp [hp])]; rfl
    · have e1 : dval (p :: r) i = dval r i := by unfold dval; rw [List.find?_cons_of_neg (by simp [hp])]
      have e2 : valV ((Sum.inl p.1, v) :: t) (Sum.inl i) = valV t (Sum.inl i) := by unfold valV; rw [List.find?_cons_of_neg (by simp [hp])]
      rw [e1, e2]
      exact RlD.val h2 i
theorem RlD.any : ∀ {kvs : List (Int × SV)} {ks : List (Key × V)}, RlD K as H ks kvs → ∀ i, (ks.any fun kv => decide (kv.1 = Sum.inl i)) = kvs.any fun p => decide (p.1 = i)
  | [], _, h, i => by rw [show _ = [] from h]; rfl
  | p :: r, _, ⟨v, t, e, h1, h2⟩, i => by
    subst e
    rw [List.any_cons, List.any_cons, RlD.any h2 i]
    congr 1
    simp
theorem RlD.set {v : V} {x : SV} (rv : Rl K as H v x) : ∀ {kvs : List (Int × SV)} {ks : List (Key × V)}, RlD K as H ks kvs → ∀ i, RlD K as H (ks.map fun kv => if kv.1 = Sum.inl i then (kv.1, v) else kv) (kvs.map fun p => if p.1 = i then (p.1, x) else p)
  | [], _, h, i => by rw [show _ = [] from h]; rfl
  | p :: r, _, ⟨u, t, e, h1, h2⟩, i => by
    subst e
    rw [List.map_cons, List.map_cons]
    by_cases hp : p.1 = i
    · rw [if_pos hp, if_pos (by rw [hp])]
      exact ⟨v, _, rfl, rv, RlD.set rv h2 i⟩
    · rw [if_neg hp, if_neg (fun z => hp (Sum.inl.inj z))]
      exact ⟨u, _, rfl, h1, RlD.set rv h2 i⟩
theorem RlD.snoc {v : V} {x : SV} (rv : Rl K as H v x) (i : Int) : ∀ {kvs : List (Int × SV)} {ks : List (Key × V)}, RlD K as H ks kvs → RlD K as H (ks ++ [(Sum.inl i, v)]) (kvs ++ [(i, x)])
  | [], _, h => by rw [show _ = [] from h]; exact ⟨v, [], rfl, rv, rfl⟩
  | p :: r, _, ⟨u, t, e, h1, h2⟩ => by subst e; exact ⟨u, _, rfl, h1, RlD.snoc rv i h2⟩
theorem RlD.put {kvs : List (Int × SV)} {ks : List (Key × V)} {v : V} {x : SV} (h : RlD K as H ks kvs) (rv : Rl K as H v x) (i : Int) : RlD K as H (putK ks (Sum.inl i) v) (dputL kvs i x) := by
  unfold putK dputL
  rw [h.any i]
  by_cases z : (kvs.any fun p => decide (p.1 = i)) = true
  · rw [if_pos z, if_pos z]; exact h.set rv i
  · rw [if_neg z, if_neg z]; exact h.snoc rv i
theorem dct_rl {x : SV} {v : V} {kvs : List (Int × SV)} (ok : Ok K as H S) (r : Rl K as H v x) (h : dctS x S = some kvs) : ∃ a k ks, x = .loc k ∧ v = .ref a ∧ as[k]? = some a ∧ Rd H a (.dK ks) ∧ RlD K as H ks kvs := by
  cases x with
  | loc k =>
    obtain ⟨a, ea, rfl⟩ := rl_loc.mp r
    unfold dctS at h
    cases hs : S[k]? with
    | none => simp only [hs] at h; cases h
    | some o =>
      have ro := ok.obj k o a hs ea
      cases o with
      | lst _ => simp only [hs] at h; cases h
      | iset _ => simp only [hs] at h; cases h
      | dct kv => simp only [hs] at h; cases h; obtain ⟨ks, h1, h2⟩ := ro; exact ⟨a, k, ks, rfl, rfl, ea, .inl h1, h2⟩
      | dcf o ks kv => simp only [hs] at h; cases h; exact ⟨a, k, ks, rfl, rfl, ea, .inr ⟨o, ro.1⟩, ro.2⟩
  | _ => cases h
theorem mono_dget : Mono2 sDget := fun x y S P P' i ⟨kvs, j, v, a, b, c, q⟩ => ⟨kvs, j, v, a, b, c, i _ _ q⟩
theorem mono_din {n : Bool} : Mono2 (sDin n) := fun x y S P P' i ⟨kvs, j, a, b, q⟩ => ⟨kvs, j, a, b, i _ _ q⟩
theorem sim_dget : Sim2 K sDget (fun x y H Q => ∃ a v, x = .ref a ∧ DGet H a y (some v) ∧ Q v H) := fun as H S x y v u Q ok rx ry h => by
  obtain ⟨kvs, i, w, h1, rfl, h2, q⟩ := h
  obtain ⟨a, k, ks, rfl, rfl, ea, rd, rr⟩ := dct_rl ok rx h1
  rw [rl_int] at ry
  subst ry
  rcases rr.val i with ⟨x', v', e1, e2, r'⟩ | ⟨e1, _⟩
  · rw [h2] at e1
    cases e1
    exact ⟨a, v', rfl, .inl ⟨ks, .inl i, rd, rfl, e2.symm⟩, q.here ok r'⟩
  · rw [h2] at e1; cases e1
end
section
variable {X : Cx}
theorem mono_dnew : Mono wDnew := fun ρ S P P' i h => i _ _ h
theorem mono_dctl {a : WE} (m : Mono a) : Mono (wDctl a) := fun ρ S P P' i h => m _ _ _ _ (fun x S1 ⟨k, kvs, b, c, d, q⟩ => ⟨k, kvs, b, c, d, i _ _ q⟩) h
theorem b_dict : bootBuiltins "dict" = some (.type "dict") := by decide +kernel
theorem pairs_rl {K : PySem.W.Frag} {as : List Addr} {H : Hp} : ∀ {kvs : List (Int × SV)} {us : List V}, RlAll K as H us (kvs.map fun (p : Int × SV) => SV.tup [.int p.1, p.2]) → ∃ ts : List (Addr × Int × V), us = ts.map (fun t => V.ref t.1) ∧ (∀ t ∈ ts, H t.1 = some (.tup [.int t.2.1, t.2.2])) ∧ RlD K as H (ts.map fun t => (.inl t.2.1, t.2.2)) kvs
  | [], us, h => ⟨[], rla_nil.mp h, (fun _ z => nomatch z), rfl⟩
  | p :: kvs, us, h => by
    obtain ⟨v, r, rfl, h1, h2⟩ := rla_cons.mp h
    obtain ⟨a, vs, rfl, ha, hv⟩ := rl_tup.mp h1
    obtain ⟨v1, r1, rfl, hk, hr⟩ := rla_cons.mp hv
    obtain ⟨v2, r2, rfl, hx, hr2⟩ := rla_cons.mp hr
    obtain rfl := rla_nil.mp hr2
    obtain rfl := rl_int.mp hk
    obtain ⟨ts, rfl, ht, hd⟩ := pairs_rl h2
    exact ⟨(a, p.1, v2) :: ts, rfl, fun t z => by
      rcases List.mem_cons.mp z with rfl | z
      · exact ha
      · exact ht t z, v2, _, rfl, hx, hd⟩
theorem RlD.merge {K : PySem.W.Frag} {as : List Addr} {H : Hp} : ∀ {more : List (Int × SV)} {ms : List (Key × V)} {kvs : List (Int × SV)} {ks : List (Key × V)}, RlD K as H ms more → RlD K as H ks kvs → RlD K as H (mergeK ks ms) (more.foldl (fun acc p => dputL acc p.1 p.2) kvs)
  | [], ms, kvs, ks, h, h' => by rw [show ms = [] from h]; exact h'
  | p :: more, ms, kvs, ks, ⟨v, t, e, hv, h⟩, h' => by
    rw [e]
    exact RlD.merge (more := more) (ms := t) (kvs := dputL kvs p.1 p.2) (ks := putK ks (.inl p.1) v) h (h'.put hv p.1)
theorem dctl_sound {T : List Str} {Δ : Nat → Sn} {k : Nat} {N : List Str} {sc : Scope} {r : Expr} {p q : Pos} {a : WE × WT} (C : Cok T Δ X k N sc) (hg : glo sc "dict" = true) (ha : Good X r a) (hs : notStar r = true) : Good X (.Call (.Name "dict" p) [r] [] q) (tt1 (wDctl a.1)) := by
  unfold glo at hg
  simp only [Bool.and_eq_true, beq_iff_eq, Bool.not_eq_true'] at hg
  have gl : Gl X "dict" := by show X.env.scope.names.lookup ("dict" : Str) = _; rw [C.hs]; exact hg.1.1
  refine .one (pe_via _ (pe_callTy (call_dictL C.calm) gl C.dc0 b_dict (pa_cons ha.pe pa_nil (star_of hs)) (by decide) hg.2 (star_of hs) rfl) ?_) (mono_dctl ha.m) rfl
  rintro σ H Q ⟨as, ρ, S, ok, en, h⟩
  refine ⟨as, ρ, S, ok, en, ha.m _ _ _ _ (fun x S1 ⟨k, kvs, e1, h2, h3, q⟩ as1 H1 v g1 ok1 rv => ?_) h⟩
  subst e1
  obtain ⟨a, ea, rfl⟩ := rl_loc.mp rv
  obtain ⟨us, hu, rr⟩ := ok1.obj k _ a h2 ea
  obtain ⟨ts, rfl, ht, hd⟩ := pairs_rl rr
  have hlen : ts.length = kvs.length := by have := hd.length; rwa [List.length_map] at this
  refine ⟨a, ts, rfl, .inl (.inl hu), ht, by omega, fun l hl => ?_⟩
  have pre : as1 <+: as1 ++ [l] := List.prefix_append _ _
  have rd : RlD X.K (as1 ++ [l]) (upd H1 l (.dK (mergeK [] (ts.map fun t => (.inl t.2.1, t.2.2))))) (mergeK [] (ts.map fun t => (.inl t.2.1, t.2.2))) (dputs kvs) := RlD.mono pre (keepU_new hl) _ _ (RlD.merge hd (show RlD X.K as1 H1 [] [] from rfl))
  exact q _ _ _ (g1.trans (Go.push hl)) (ok1.pushO hl ⟨_, upd_same, rd⟩) (rl_loc.mpr ⟨l, by rw [← ok1.len]; exact List.getElem?_concat_length, rfl⟩)
theorem dget_sound {x y : Expr} {p : Pos} {a b : WE × WT} (hu : X.A.units + 1 < cLine) (ha : Good X x a) (hb : Good X y b) (h : notSlice y = true) : Good X (.Subscript x y p) (tt1 (w2 sDget a.1 b.1)) :=
  .one (pe_via _ (pe_dget hu ha.pe hb.pe (plainIx_of h)) (bin_via sim_dget mono_dget ha.m hb.m)) (.two mono_dget ha.m hb.m) rfl
end
end Rf
set_option Elab.async false
set_option linter.all false
set_option maxRecDepth 100000
set_option maxHeartbeats 4000000
namespace PySem
section
variable {prog : Program} {w : World} {A : Around} {E : Value → Shared → Prop} {s : Shared}
end
section
variable {prog : Program} {w : World} {A : Around} {E : Value → Shared → Prop} {s : Shared}
end
end PySem
namespace L2
open PySem PySem.Spec PyProof.Rows
section
variable {X : Cx}
end
end L2
set_option Elab.async false
set_option linter.all false
set_option maxRecDepth 100000
set_option maxHeartbeats 1000000
namespace Rf
open PySem L2
noncomputable def liftG (K : PySem.W.Frag) (g : Tg) : TG := fun v σ H Q => ∃ as ρ S x, Ok K as H S ∧ EnvOk K as H σ ρ ∧ Rl K as H v x ∧ wTg g x ρ fun ρ' => ∀ σ', EnvOk K as H σ' ρ' → Q σ' H
noncomputable def liftGs (K : PySem.W.Frag) (g : Tgs) : TGs := fun vs σ H Q => ∃ as ρ S xs, Ok K as H S ∧ EnvOk K as H σ ρ ∧ RlAll K as H vs xs ∧ wTgs g xs ρ fun ρ' => ∀ σ', EnvOk K as H σ' ρ' → Q σ' H
mutual
theorem mono_tg : ∀ (g : Tg) {x : SV} {ρ : EnvS} {P P' : EnvS → Prop}, (∀ r, P r → P' r) → wTg g x ρ P → wTg g x ρ P'
  | .nm i, x, ρ, P, P', h, q => by unfold wTg at q ⊢; exact h _ q
  | .tup ts, x, ρ, P, P', h, q => by
    cases x with
    | tup xs => unfold wTg at q ⊢; exact mono_tgs ts h q
    | _ => unfold wTg at q; exact q.elim
theorem mono_tgs : ∀ (g : Tgs) {x : List SV} {ρ : EnvS} {P P' : EnvS → Prop}, (∀ r, P r → P' r) → wTgs g x ρ P → wTgs g x ρ P'
  | .nil, x, ρ, P, P', h, q => by
    cases x with
    | nil => unfold wTgs at q ⊢; exact h _ q
    | cons _ _ => unfold wTgs at q; exact q.elim
  | .cons t ts, x, ρ, P, P', h, q => by
    cases x with
    | nil => unfold wTgs at q; exact q.elim
    | cons y ys => unfold wTgs at q ⊢; exact mono_tg t (fun r q => mono_tgs ts h q) q
end
theorem assign_each {env : Env} : ∀ {es : List Expr}, es.all notStar = true → (assignEach es env).length = es.length ∧ (assignEach es env).findIdx? (·.1) = none ∧ ∀ e r, es = e :: r → (assignEach (e :: r) env).map (·.2) = assign e env :: (assignEach r env).map (·.2)
  | [], _ => ⟨rfl, rfl, fun e r h => by cases h⟩
  | e :: es, h => by
    rw [List.all_cons, Bool.and_eq_true] at h
    obtain ⟨h1, h2, _⟩ := assign_each (env := env) h.2
    have : assignEach (e :: es) env = (false, assign e env) :: assignEach es env := by cases e <;> first | rfl | (have := h.1; cases this)
    rw [this]
    refine ⟨by simp [h1], by rw [List.findIdx?_cons, h2]; rfl, fun e' r z => ?_⟩
    injection z with z1 z2
    subst z1 z2
    rw [this]; rfl
theorem tgs_stars {k : Nat} {N : List Str} {sc : Scope} : ∀ {g : Tgs} {es : List Expr}, chkTgs k N sc g es = true → es.all notStar = true
  | .nil, es, h => by unfold chkTgs at h; rw [List.isEmpty_iff] at h; subst h; rfl
  | .cons t ts, es, h => by
    rw [chkTgs] at h
    replace h := any_some h
    obtain ⟨e, he, h⟩ := h
    simp only [Bool.and_eq_true] at h
    rw [head_eq he, List.all_cons, h.1.2, tgs_stars h.2]; rfl
section
variable {X : Cx} {T : List Str} {Δ : Nat → Sn} {k : Nat} {N : List Str} {sc : Scope}
mutual
theorem tg_sound (C : Cok T Δ X k N sc) : ∀ (g : Tg) (r : Expr), chkTg k N sc g r = true → PG X r (liftG X.K g)
  | .nm i, r, h => by
    rw [chkTg] at h
    replace h := any_some h
    obtain ⟨x, hx, h⟩ := h
    obtain ⟨p, rfl⟩ := vName_eq hx
    · simp only [Bool.and_eq_true, decide_eq_true_eq] at h
      obtain ⟨⟨h1, h2⟩, h3⟩ := h
      unfold loc at h3
      simp only [Bool.or_eq_true, beq_iff_eq] at h3
      have hl : Loc X.env.scope x := by rw [C.hs]; exact h3
      have hf : X.fn x = true ∨ X.env.scope.names.lookup x = some .local := by
        rw [C.hs]
        rcases h3 with h3 | h3
        · exact .inr h3
        · exact .inl (C.fn i x h1 h2 h3)
      have b := pg_name (X := X) (pos := p) (i := i) (by rw [C.hN]; exact C.nd) (by rw [C.hN]; exact h2) hl hf
      intro pins s σ H v u Q I rr hq
      obtain ⟨as, ρ, S, y, ok, en, rv, q⟩ := hq
      unfold wTg at q
      exact b pins s σ H v u Q I rr (q _ (en.set rv))
  | .tup ts, r, h => by
    rw [chkTg] at h
    replace h := any_some h
    obtain ⟨es, he, h⟩ := h
    obtain ⟨j, p, rfl⟩ := vTup_eq he
    · have st := assign_each (env := X.env) (tgs_stars h)
      have b := pg_tup (X := X) (k := j) (pos := p) C.calm (tgs_sound C ts es h) st.1 st.2.1
      intro pins s σ H v u Q I rr hq
      refine b pins s σ H v u Q I rr ?_
      obtain ⟨as, ρ, S, y, ok, en, rv, q⟩ := hq
      cases y with
      | tup xs =>
        obtain ⟨a, vs, rfl, ha, ra⟩ := rl_tup.mp rv
        unfold wTg at q
        refine ⟨a, vs, rfl, SqT.of ha, ?_, as, ρ, S, xs, ok, en, ra, q⟩
        rw [ra.length]; exact tgs_len ts es xs h q
      | _ => unfold wTg at q; exact q.elim
theorem tgs_sound (C : Cok T Δ X k N sc) : ∀ (g : Tgs) (es : List Expr), chkTgs k N sc g es = true → PGs X es (liftGs X.K g)
  | .nil, es, h => by
    rw [chkTgs] at h
    rw [List.isEmpty_iff] at h
    subst h
    intro pins s σ H vs us Q I rr hq
    refine pgs_nil pins s σ H vs us Q I rr ?_
    obtain ⟨as, ρ, S, xs, ok, en, rv, q⟩ := hq
    cases xs with
    | nil => unfold wTgs at q; exact ⟨rla_nil.mp rv, q _ en⟩
    | cons _ _ => unfold wTgs at q; exact q.elim
  | .cons t ts, el, h => by
    have st := assign_each (env := X.env) (tgs_stars h)
    rw [chkTgs] at h
    replace h := any_some h
    obtain ⟨e, he, h⟩ := h
    simp only [Bool.and_eq_true] at h
    rw [head_eq he] at st ⊢
    generalize el.tail = es at h st
    intro pins s σ H vs us Q I rr hq
    refine pgs_cons (tg_sound C t e h.1.1) (tgs_sound C ts es h.2) (st.2.2 _ _ rfl) pins s σ H vs us Q I rr ?_
    obtain ⟨as, ρ, S, xs, ok, en, rv, q⟩ := hq
    cases xs with
    | nil => unfold wTgs at q; exact q.elim
    | cons y ys =>
      unfold wTgs at q
      obtain ⟨v, r, rfl, r1, r2⟩ := rla_cons.mp rv
      exact ⟨v, r, rfl, as, ρ, S, y, ok, en, r1, mono_tg t (fun ρ' q σ' en' => ⟨as, ρ', S, ys, ok, en', r2, q⟩) q⟩
theorem tgs_len : ∀ (g : Tgs) (es : List Expr) (xs : List SV) {ρ : EnvS} {P : EnvS → Prop}, chkTgs k N sc g es = true → wTgs g xs ρ P → xs.length = es.length
  | .nil, es, xs, ρ, P, h, q => by
    rw [chkTgs] at h
    rw [List.isEmpty_iff] at h
    subst h
    cases xs with
    | nil => rfl
    | cons _ _ => unfold wTgs at q; exact q.elim
  | .cons t ts, el, xs, ρ, P, h, q => by
    rw [chkTgs] at h
    replace h := any_some h
    obtain ⟨e, he, h⟩ := h
    simp only [Bool.and_eq_true] at h
    rw [head_eq he]
    generalize el.tail = es at h
    cases xs with
    | nil => unfold wTgs at q; exact q.elim
    | cons y ys =>
      unfold wTgs at q
      obtain ⟨ρ', q'⟩ := tg_some t q
      simp [tgs_len ts es ys h.2 q']
theorem tg_some : ∀ (g : Tg) {x : SV} {ρ : EnvS} {P : EnvS → Prop}, wTg g x ρ P → ∃ ρ', P ρ'
  | .nm i, x, ρ, P, q => by unfold wTg at q; exact ⟨_, q⟩
  | .tup ts, x, ρ, P, q => by
    cases x with
    | tup xs => unfold wTg at q; exact tgs_some ts q
    | _ => unfold wTg at q; exact q.elim
theorem tgs_some : ∀ (g : Tgs) {xs : List SV} {ρ : EnvS} {P : EnvS → Prop}, wTgs g xs ρ P → ∃ ρ', P ρ'
  | .nil, xs, ρ, P, q => by
    cases xs with
    | nil => unfold wTgs at q; exact ⟨_, q⟩
    | cons _ _ => unfold wTgs at q; exact q.elim
  | .cons t ts, xs, ρ, P, q => by
    cases xs with
    | nil => unfold wTgs at q; exact q.elim
    | cons y ys =>
      unfold wTgs at q
      obtain ⟨ρ', q'⟩ := tg_some t q
      exact tgs_some ts q'
end
end
noncomputable def Walks (K : PySem.W.Frag) (as0 : List Addr) (H0 : Hp) (J : It) (keep : Sto → Prop) (xs : List SV) : Prop := ∀ as H S, Go as0 H0 as H → Ok K as H S → keep S →
  (∀ (i : Nat) (x : SV), xs[i]? = some x → J.go i H ∧ ∀ v H', J.yld i H v H' → Go as H as H' ∧ Ok K as H' S ∧ Rl K as H' v x) ∧ J.stop xs.length H
noncomputable def PostI (K : PySem.W.Frag) (as : List Addr) (H : Hp) (R : It → Hp → Prop) : (Sto → Prop) → List SV → Sto → Prop := fun keep xs S1 => ∀ as1 H1 J, Go as H as1 H1 → Ok K as1 H1 S1 → Walks K as1 H1 J keep xs → R J H1
noncomputable def liftI (K : PySem.W.Frag) (w : WI) : TI := fun σ H R => ∃ as ρ S, Ok K as H S ∧ EnvOk K as H σ ρ ∧ w ρ S (PostI K as H R)
noncomputable def MonoI (w : WI) : Prop := ∀ ρ S (P P' : (Sto → Prop) → List SV → Sto → Prop), (∀ k x S', P k x S' → P' k x S') → w ρ S P → w ρ S P'
structure GoodI (X : Cx) (tg r : Expr) (w : WI) : Prop where
  pi : PI X tg r (liftI X.K w)
  m : MonoI w
section
variable {X : Cx} {K : PySem.W.Frag}
theorem keep_seq {as0 as : List Addr} {H0 H : Hp} {S1 S : Sto} {x : SV} {v : V} {xs : List SV} (ok1 : Ok K as0 H0 S1) (r : Rl K as0 H0 v x) (h : seqS x S1 = some xs) (g : Go as0 H0 as H) (ok : Ok K as H S) (kp : keepS x S1 S) : Rl K as H v x ∧ seqS x S = some xs := by
  refine ⟨Rl.mono g.pre (g.ku ok1) x v r, ?_⟩
  cases x with
  | loc k =>
    have kp : S[k]? = S1[k]? := kp
    unfold seqS at h ⊢
    simp only [kp]; exact h
  | _ => exact h
theorem walk_list {as0 : List Addr} {H0 : Hp} {S1 : Sto} {x : SV} {a : Addr} {xs : List SV} (ok1 : Ok K as0 H0 S1) (r : Rl K as0 H0 (.ref a) x) (n : x ≠ .tup xs) (h : seqS x S1 = some xs) : Walks K as0 H0 (Itl K a) (keepS x S1) xs := fun as H S g ok kp => by
  obtain ⟨r', h'⟩ := keep_seq ok1 r h g ok kp
  obtain ⟨b, vs, e, hq, rr⟩ := list_rl ok r' n h'
  cases e
  refine ⟨fun i y hy => ?_, vs, hq, by rw [rr.length]; exact Nat.le_refl _⟩
  obtain ⟨v, hv, rv⟩ := rr.get hy
  refine ⟨⟨vs, v, hq, hv⟩, fun u H' yl => ?_⟩
  obtain ⟨e, yl⟩ := yl
  subst e
  have := yl vs hq
  rw [hv] at this; cases this
  exact ⟨Go.refl _ _, ok, rv⟩
theorem walk_tup {as0 : List Addr} {H0 : Hp} {S1 : Sto} {a : Addr} {xs : List SV} (ok1 : Ok K as0 H0 S1) (r : Rl K as0 H0 (.ref a) (.tup xs)) : Walks K as0 H0 (Itt K a) (keepS (.tup xs) S1) xs := fun as H S g ok kp => by
  have r' := Rl.mono g.pre (g.ku ok1) _ _ r
  obtain ⟨b, vs, e, hb, rr⟩ := rl_tup.mp r'
  cases e
  refine ⟨fun i y hy => ?_, vs, SqT.of hb, by rw [rr.length]; exact Nat.le_refl _⟩
  obtain ⟨v, hv, rv⟩ := rr.get hy
  refine ⟨⟨vs, v, SqT.of hb, hv⟩, fun u H' yl => ?_⟩
  obtain ⟨e, yl⟩ := yl
  subst e
  have := yl vs (SqT.of hb)
  rw [hv] at this; cases this
  exact ⟨Go.refl _ _, ok, rv⟩
theorem walk_rng {as0 : List Addr} {H0 : Hp} {lo hi : Int} : Walks K as0 H0 (Itr lo (hi - lo).toNat) (fun _ => True) (rngS lo hi) := fun as H S g ok _ => by
  have hl : (rngS lo hi).length = (hi - lo).toNat := by unfold rngS; simp
  refine ⟨fun i y hy => ?_, by show (hi - lo).toNat ≤ (rngS lo hi).length; rw [hl]; exact Nat.le_refl _⟩
  have hi' : i < (hi - lo).toNat := by rw [← hl]; exact (List.getElem?_eq_some_iff.mp hy).1
  refine ⟨hi', fun u H' yl => ?_⟩
  obtain ⟨e, rfl⟩ := yl
  subst e
  have : y = .int (lo + i) := by
    unfold rngS at hy
    rw [List.getElem?_map, List.getElem?_range hi'] at hy
    exact (Option.some.inj hy).symm
  subst this
  exact ⟨Go.refl _ _, ok, rl_int.mpr rfl⟩
theorem enum_get {xs : List SV} {i : Nat} {y : SV} (h : (enumS xs)[i]? = some y) : ∃ x, xs[i]? = some x ∧ y = .tup [.int i, x] := by
  unfold enumS at h
  rw [List.getElem?_zipWith] at h
  cases h1 : (List.range xs.length)[i]? with
  | none => rw [h1] at h; cases h
  | some j =>
    cases h2 : xs[i]? with
    | none => rw [h1, h2] at h; cases h
    | some x =>
      rw [h1, h2] at h
      have hi := (List.getElem?_eq_some_iff.mp h2).1
      rw [List.getElem?_range hi] at h1
      cases h1; cases h
      exact ⟨x, rfl, rfl⟩
theorem enum_len {xs : List SV} : (enumS xs).length = xs.length := by unfold enumS; simp
theorem walk_enumL {as0 : List Addr} {H0 : Hp} {S1 : Sto} {x : SV} {a : Addr} {xs : List SV} (ok1 : Ok K as0 H0 S1) (r : Rl K as0 H0 (.ref a) x) (n : x ≠ .tup xs) (h : seqS x S1 = some xs) : Walks K as0 H0 (IteL K a) (keepS x S1) (enumS xs) := fun as H S g ok kp => by
  obtain ⟨r', h'⟩ := keep_seq ok1 r h g ok kp
  obtain ⟨b, vs, e, hq, rr⟩ := list_rl ok r' n h'
  cases e
  refine ⟨fun i y hy => ?_, vs, hq, by rw [rr.length, enum_len]⟩
  obtain ⟨z, hz, rfl⟩ := enum_get hy
  obtain ⟨v, hv, rv⟩ := rr.get hz
  refine ⟨⟨vs, v, hq, hv⟩, fun u H' yl => ?_⟩
  obtain ⟨p, w, hp, rfl, yl, rfl⟩ := yl
  have := yl vs hq
  rw [hv] at this; cases this
  exact ⟨Go.new hp, ok.new hp, rl_tup.mpr ⟨p, _, rfl, upd_same, .cons (rl_int.mpr rfl) (.cons (Rl.mono (List.prefix_refl _) (keepU_new hp) z v rv) .nil)⟩⟩
theorem walk_enumT {as0 : List Addr} {H0 : Hp} {S1 : Sto} {a : Addr} {xs : List SV} (ok1 : Ok K as0 H0 S1) (r : Rl K as0 H0 (.ref a) (.tup xs)) : Walks K as0 H0 (IteT K a) (keepS (.tup xs) S1) (enumS xs) := fun as H S g ok kp => by
  have r' := Rl.mono g.pre (g.ku ok1) _ _ r
  obtain ⟨b, vs, e, hb, rr⟩ := rl_tup.mp r'
  cases e
  refine ⟨fun i y hy => ?_, vs, SqT.of hb, by rw [rr.length, enum_len]⟩
  obtain ⟨z, hz, rfl⟩ := enum_get hy
  obtain ⟨v, hv, rv⟩ := rr.get hz
  refine ⟨⟨vs, v, SqT.of hb, hv⟩, fun u H' yl => ?_⟩
  obtain ⟨p, w, hp, rfl, yl, rfl⟩ := yl
  have := yl vs (SqT.of hb)
  rw [hv] at this; cases this
  exact ⟨Go.new hp, ok.new hp, rl_tup.mpr ⟨p, _, rfl, upd_same, .cons (rl_int.mpr rfl) (.cons (Rl.mono (List.prefix_refl _) (keepU_new hp) z v rv) .nil)⟩⟩
theorem pi_via {tg l : Expr} {w : TI} (w' : TI) (h : PI X tg l w) (imp : ∀ σ H R, w' σ H R → w σ H R) : PI X tg l w' := fun pins s σ H R I hw => h pins s σ H R I (imp σ H R hw)
noncomputable def iSeq (K : PySem.W.Frag) (tl : TE) : TI := fun σ H R => tl σ H fun x H1 => ∃ a, x = .ref a ∧ (((∃ xs, SqL K H1 a xs) ∧ R (Itl K a) H1) ∨ ((∃ xs, SqT K H1 a xs) ∧ R (Itt K a) H1))
theorem pi_seq {tg l : Expr} {tl : TE} (hl : PE X l tl) : PI X tg l (iSeq X.K tl) := by
  intro pins s σ H R I h
  refine thn (hl pins s σ H _ I h) fun v s1 ⟨x, H1, I1, r1, q1⟩ => ?_
  obtain ⟨a, e, q⟩ := q1
  subst e
  cases r1
  have I2 : ∀ {ob : Obj}, Inv X pins σ H1 { s1 with heap := s1.heap.push ob } := I1.kept (t' := s1.toks) fun b o e => Heap.get?_push_of_some _ e
  have fp : ∀ b ∈ [s1.heap.objs.size], FpOk X pins H1 b := fun b hb => by
    rw [List.mem_singleton.mp hb]
    exact I1.fpOk (Nat.le_refl _) (I1.hok.fresh (Nat.le_refl _))
  rcases q with ⟨⟨xs, hq⟩, q⟩ | ⟨⟨xs, hq⟩, q⟩
  · obtain ⟨its, rv, p, hz⟩ := I1.list hq
    exact wpAny_pyIter_list p.isList ⟨s1.heap.objs.size, [s1.heap.objs.size], _, _, H1, rfl, I2, turn_list a _, ⟨_, Heap.get?_push_size _ rfl, rfl, rfl⟩, fp, q⟩
  · obtain ⟨its, rv, p, hz⟩ := I1.tuple hq
    exact wpAny_pyIter_tuple (show s1.heap.IsTuple a its.toArray from p) ⟨s1.heap.objs.size, [s1.heap.objs.size], _, _, H1, rfl, I2, turn_tuple a _, ⟨_, Heap.get?_push_size _ rfl, rfl, rfl⟩, fp, q⟩
theorem seq_sound {tg r : Expr} {a : WE × WT} (ha : Good X r a) : GoodI X tg r (wiSeq a.1) where
  m := fun ρ S P P' i h => ha.m _ _ _ _ (fun x S1 ⟨xs, e, q⟩ => ⟨xs, e, i _ _ _ q⟩) h
  pi := pi_via _ (pi_seq ha.pe) (by
    rintro σ H R ⟨as, ρ, S, ok, en, h⟩
    refine ⟨as, ρ, S, ok, en, ha.m _ _ _ _ (fun x S1 ⟨xs, e, q⟩ as1 H1 v g1 ok1 rv => ?_) h⟩
    by_cases ht : x = .tup xs
    · subst ht
      obtain ⟨p, vs, rfl, hp, rr⟩ := rl_tup.mp rv
      exact ⟨p, rfl, .inr ⟨⟨vs, SqT.of hp⟩, q as1 H1 _ g1 ok1 (walk_tup ok1 rv)⟩⟩
    · obtain ⟨p, vs, rfl, hq, rr⟩ := list_rl ok1 rv ht e
      exact ⟨p, rfl, .inl ⟨⟨vs, hq⟩, q as1 H1 _ g1 ok1 (walk_list ok1 rv ht e)⟩⟩)
theorem enum_sound {T : List Str} {Δ : Nat → Sn} {k : Nat} {N : List Str} {sc : Scope} {elts : List Expr} {kx : Nat} {tp p q : Pos} {r : Expr} {a : WE × WT} (C : Cok T Δ X k N sc) (hg : glo sc "enumerate" = true) (ha : Good X r a) (hs : notStar r = true) : GoodI X (.Tuple elts kx tp) (.Call (.Name "enumerate" p) [r] [] q) (wiEnum a.1) where
  m := fun ρ S P P' i h => ha.m _ _ _ _ (fun x S1 ⟨xs, e, q⟩ => ⟨xs, e, i _ _ _ q⟩) h
  pi := by
    unfold glo at hg
    simp only [Bool.and_eq_true, beq_iff_eq, Bool.not_eq_true'] at hg
    have gl : Gl X "enumerate" := by show X.env.scope.names.lookup ("enumerate" : Str) = _; rw [C.hs]; exact hg.1.1
    refine pi_via _ (pi_enum gl C.enm (pa_cons ha.pe pa_nil (star_of hs)) (star_of hs)) ?_
    rintro σ H R ⟨as, ρ, S, ok, en, h⟩
    refine ⟨as, ρ, S, ok, en, ha.m _ _ _ _ (fun x S1 ⟨xs, e, q⟩ as1 H1 v g1 ok1 rv => ?_) h⟩
    by_cases ht : x = .tup xs
    · subst ht
      obtain ⟨p, vs, rfl, hp, rr⟩ := rl_tup.mp rv
      exact ⟨p, rfl, .inr ⟨⟨vs, SqT.of hp⟩, q as1 H1 _ g1 ok1 (walk_enumT ok1 rv)⟩⟩
    · obtain ⟨p, vs, rfl, hq, rr⟩ := list_rl ok1 rv ht e
      exact ⟨p, rfl, .inl ⟨⟨vs, hq⟩, q as1 H1 _ g1 ok1 (walk_enumL ok1 rv ht e)⟩⟩
theorem rng1_sound {T : List Str} {Δ : Nat → Sn} {k : Nat} {N : List Str} {sc : Scope} {tg r : Expr} {p q : Pos} {a : WE × WT} (C : Cok T Δ X k N sc) (hg : glo sc "range" = true) (ha : Good X r a) (hs : notStar r = true) : GoodI X tg (.Call (.Name "range" p) [r] [] q) (wiRng1 a.1) where
  m := fun ρ S P P' i h => ha.m _ _ _ _ (fun x S1 ⟨j, e, z, q⟩ => ⟨j, e, z, i _ _ _ q⟩) h
  pi := by
    unfold glo at hg
    simp only [Bool.and_eq_true, beq_iff_eq, Bool.not_eq_true'] at hg
    have gl : Gl X "range" := by show X.env.scope.names.lookup ("range" : Str) = _; rw [C.hs]; exact hg.1.1
    refine pi_via _ (pi_range1 gl C.rng (pa_cons ha.pe pa_nil (star_of hs)) (star_of hs)) ?_
    rintro σ H R ⟨as, ρ, S, ok, en, h⟩
    refine ⟨as, ρ, S, ok, en, ha.m _ _ _ _ (fun x S1 ⟨j, e, z, q⟩ as1 H1 v g1 ok1 rv => ?_) h⟩
    subst e
    refine ⟨j, by rw [rl_int.mp rv], z.1, z.2, ?_⟩
    have := q as1 H1 (Itr 0 (j - 0).toNat) g1 ok1 walk_rng
    rwa [Int.sub_zero] at this
theorem rng2_sound {T : List Str} {Δ : Nat → Sn} {k : Nat} {N : List Str} {sc : Scope} {tg r r2 : Expr} {p q : Pos} {a b : WE × WT} (C : Cok T Δ X k N sc) (hg : glo sc "range" = true) (ha : Good X r a) (hb : Good X r2 b) (hs : notStar r = true) (hs2 : notStar r2 = true) : GoodI X tg (.Call (.Name "range" p) [r, r2] [] q) (wiRng2 a.1 b.1) where
  m := fun ρ S P P' i h => ha.m _ _ _ _ (fun x S1 h => hb.m _ _ _ _ (fun y S2 ⟨l, j, e, e2, z, q⟩ => ⟨l, j, e, e2, z, i _ _ _ q⟩) h) h
  pi := by
    unfold glo at hg
    simp only [Bool.and_eq_true, beq_iff_eq, Bool.not_eq_true'] at hg
    have gl : Gl X "range" := by show X.env.scope.names.lookup ("range" : Str) = _; rw [C.hs]; exact hg.1.1
    refine pi_via _ (pi_range2 gl C.rng (pa_cons ha.pe (pa_cons hb.pe pa_nil (star_of hs2)) (star_of hs)) (by rw [star_of hs, star_of hs2]; rfl) (star_of hs2)) ?_
    rintro σ H R ⟨as, ρ, S, ok, en, h⟩
    refine ⟨as, ρ, S, ok, en, ha.m _ _ _ _ (fun x S1 h as1 H1 v g1 ok1 rv => ?_) h⟩
    refine ⟨as1, ρ, S1, ok1, en.mono g1.pre (g1.ku ok), hb.m _ _ _ _ (fun y S2 ⟨l, j, e, e2, z, q⟩ as2 H2 u g2 ok2 ru => ?_) h⟩
    subst e e2
    exact ⟨l, j, by rw [rl_int.mp rv, rl_int.mp ru], z, q as2 H2 _ (g1.trans g2) ok2 walk_rng⟩
theorem walk_dk {as1 : List Addr} {H1 : Hp} {a : Addr} {k : Nat} {o : Obj} {ks : List (Key × V)} {kvs : List (Int × SV)} (ea : as1[k]? = some a) : Walks K as1 H1 (Itk a o ks) (fun S' => S'[k]? = some (.dcf o ks kvs)) (kvs.map fun p => SV.int p.1) := fun as H S g ok kp => by
  have ea' : as[k]? = some a := by
    obtain ⟨t, rfl⟩ := g.pre
    rw [List.getElem?_append_left ((List.getElem?_eq_some_iff.mp ea).1)]; exact ea
  obtain ⟨h1, h2⟩ := (show RlO K as H a (.dcf o ks kvs) from ok.obj k _ a kp ea')
  refine ⟨fun i x hx => ?_, by rw [h2.length, List.length_map]; exact Nat.le_refl _, h1⟩
  rw [List.getElem?_map] at hx
  cases hp : kvs[i]? with
  | none => rw [hp] at hx; cases hx
  | some p =>
    rw [hp] at hx
    cases hx
    obtain ⟨v, hv⟩ := h2.get hp
    refine ⟨⟨(List.getElem?_eq_some_iff.mp hv).1, h1⟩, fun u H' yl => ?_⟩
    obtain ⟨rfl, q, hq, rfl⟩ := yl
    rw [hv] at hq
    cases hq
    exact ⟨Go.refl _ _, ok, rl_int.mpr rfl⟩
theorem dk_sound {tg r : Expr} {a : WE × WT} (ha : Good X r a) : GoodI X tg r (wiDk a.1) where
  m := fun ρ S P P' i h => ha.m _ _ _ _ (fun x S1 ⟨k, kvs, e, hk, q⟩ => ⟨k, kvs, e, hk, fun o ks => i _ _ _ (q o ks)⟩) h
  pi := pi_via _ (pi_dk ha.pe) (by
    rintro σ H R ⟨as, ρ, S, ok, en, h⟩
    refine ⟨as, ρ, S, ok, en, ha.m _ _ _ _ (fun x S1 ⟨k, kvs, e, hk, q⟩ as1 H1 v g1 ok1 rv => ?_) h⟩
    subst e
    obtain ⟨a, ea, rfl⟩ := rl_loc.mp rv
    obtain ⟨ks, h1, h2⟩ := ok1.obj k _ a hk ea
    refine ⟨a, ks, rfl, .inl ⟨h1, fun o => ?_⟩⟩
    obtain ⟨ok2, ku⟩ := ok1.writeO (x := .dcf o ks kvs) (u := .frz o (.dK ks)) hk ea (fun ku => ⟨upd_same, RlD.mono (List.prefix_refl _) ku kvs ks h2⟩)
    exact q o ks as1 _ (Itk a o ks) (g1.trans (Go.write (List.mem_of_getElem? ea))) ok2 (walk_dk ea))
end
end Rf
set_option Elab.async false
set_option linter.all false
set_option maxRecDepth 100000
set_option maxHeartbeats 1000000
namespace Rf
open PySem L2
theorem join_some {α : Type} {o : Option (Option α)} {x : α} (h : o.join = some x) : o = some (some x) := by
  cases o with
  | none => cases h
  | some o => cases o with
    | none => cases h
    | some y => cases h; rfl
theorem EnvOk.cap {K : PySem.W.Frag} {as : List Addr} {H : Hp} {σ : St} {ρ : EnvS} (h : EnvOk K as H σ ρ) (k : Nat) (js : List Nat) : EnvOk K as H (capS k js σ) (capE k js ρ) := by
  refine ⟨by unfold capS capE; simp, fun i x e => ?_⟩
  unfold capE at e
  unfold capS
  by_cases hi : i < k
  · rw [List.getElem?_append_left (by simpa using hi), List.getElem?_replicate, if_pos hi] at e
    cases e
  · rw [List.getElem?_append_right (by simpa using hi), List.length_replicate, List.getElem?_map] at e
    rw [List.getElem?_append_right (by simpa using hi), List.length_replicate, List.getElem?_map]
    cases hj : js[i - k]? with
    | none => rw [hj] at e; cases e
    | some j =>
      rw [hj] at e
      have e' : (ρ[j]?).join = some x := Option.some.inj e
      obtain ⟨v, hv, rv⟩ := h.2 j x (join_some e')
      exact ⟨v, by simp only [Option.map_some]; rw [hv]; rfl, rv⟩
theorem Ok.adopt {K : PySem.W.Frag} {as : List Addr} {H : Hp} {S : Sto} {D : Addr} {vs : List V} {xs : List SV} (h : Ok K as H S) (n : D ∉ as) (hD : H D = some (.lst vs)) (r : RlAll K as H vs xs) : Ok K (as ++ [D]) H (S ++ [.lst xs]) := by
  have pre : as <+: as ++ [D] := List.prefix_append _ _
  refine ⟨by rw [List.length_append, List.length_append, h.len]; rfl, ?_, fun k o a e ea => ?_⟩
  · rw [List.nodup_append]
    refine ⟨h.nd, by simp, fun a ha b hb => ?_⟩
    rw [List.mem_singleton.mp hb]
    intro z; subst z; exact n ha
  · by_cases hk : k < S.length
    · rw [List.getElem?_append_left hk] at e
      rw [List.getElem?_append_left (by rw [h.len]; exact hk)] at ea
      exact (h.obj k o a e ea).mono pre (KeepU.refl _) fun _ z => z
    · have hk' : k = S.length := by
        have := (List.getElem?_eq_some_iff.mp e).1
        rw [List.length_append, List.length_singleton] at this
        omega
      subst hk'
      rw [List.getElem?_concat_length] at e
      rw [← h.len, List.getElem?_concat_length] at ea
      cases e; cases ea
      exact ⟨vs, hD, RlAll.mono pre (KeepU.refl _) xs vs r⟩
theorem mono_turns {keep : Sto → Prop} {g : Tg} {t : WT} {e : WE} {ρ : EnvS} (mt : MonoT t) (me : Mono e) {Q Q' : List SV → Sto → Prop} (i : ∀ ys S, Q ys S → Q' ys S) : ∀ (xs ys : List SV) (S : Sto), wTurns keep g t e ρ Q xs ys S → wTurns keep g t e ρ Q' xs ys S
  | [], ys, S, h => by unfold wTurns at h ⊢; exact ⟨h.1, i _ _ h.2⟩
  | x :: xs, ys, S, h => by
    unfold wTurns at h ⊢
    refine ⟨h.1, mono_tg g (fun ρ2 q => mt _ _ _ _ (fun b S1 q => ite_imp (fun q => me _ _ _ _ (fun y S2 q => ⟨q.1, mono_turns mt me i xs _ _ q.2⟩) q) (fun q => mono_turns mt me i xs _ _ q) q) q) h.2⟩
theorem Mono.comp {k : Nat} {js : List Nat} {g : Tg} {i : WI} {t : WT} {e : WE} (mi : MonoI i) (mt : MonoT t) (me : Mono e) : Mono (wComp k js g i t e) := fun ρ S P P' im h => mi _ _ _ _ (fun keep xs S1 h => mono_turns mt me (fun ys S2 q => im _ _ q) xs [] S1 h) h
theorem comp_via {K : PySem.W.Frag} {k : Nat} {js : List Nat} {g : Tg} {i : WI} {t : WT} {e : WE} (mi : MonoI i) (mt : MonoT t) (me : Mono e) : ∀ σ H Q, lift K (wComp k js g i t e) σ H Q → tComp (liftI K i) (liftG K g) (liftT K t) (lift K e) k js σ H Q := by
  rintro σ H Q ⟨as, ρ, S, ok, en, h⟩
  refine ⟨as, ρ, S, ok, en, mi _ _ _ _ (fun keep xs S1 h as1 H1 J g1 ok1 W => ?_) h⟩
  intro D hD
  have Dn : D ∉ as1 := ok1.free hD
  -- what holds ahead of turn i
  refine ⟨fun i m vs H2 => m = xs.length - i ∧ i ≤ xs.length ∧ ∃ as2 S2 ys, Go as1 H1 as2 H2 ∧ Ok K as2 H2 S2 ∧ D ∉ as2 ∧ H2 D = some (.lst vs) ∧ RlAll K as2 H2 vs ys ∧
      wTurns keep g t e (capE k js ρ) (fun ys S2 => Post K as H Q (.loc S2.length) (S2 ++ [.lst ys])) (xs.drop i) ys S2, ⟨xs.length, by simp, Nat.zero_le _, as1, S1, [], Go.new hD, ok1.new hD, Dn, upd_same, .nil, h⟩, ?_⟩
  rintro i m vs H2 ⟨rfl, hi, as2, S2, ys, g2, ok2, n2, d2, rs, h⟩
  by_cases hlt : i < xs.length
  · right
    rw [List.drop_eq_getElem_cons hlt] at h
    unfold wTurns at h
    obtain ⟨kp, h⟩ := h
    obtain ⟨w1, _⟩ := W as2 H2 S2 g2 ok2 kp
    obtain ⟨go, yl⟩ := w1 i xs[i] (List.getElem?_eq_getElem hlt)
    refine ⟨go, fun vs' H' => ∃ as2 S2 ys, Go as1 H1 as2 H' ∧ Ok K as2 H' S2 ∧ D ∉ as2 ∧ H' D = some (.lst vs') ∧ RlAll K as2 H' vs' ys ∧
      wTurns keep g t e (capE k js ρ) (fun ys S2 => Post K as H Q (.loc S2.length) (S2 ++ [.lst ys])) (xs.drop (i + 1)) ys S2, fun vs' H' z => ⟨xs.length - (i + 1), by omega, rfl, hlt, z⟩, fun x H3 y3 => ?_⟩
    obtain ⟨g3, ok3, rx⟩ := yl x H3 y3
    have en3 : EnvOk K as2 H3 (capS k js σ) (capE k js ρ) := ((en.mono g1.pre (g1.ku ok)).mono (g2.trans g3).pre ((g2.trans g3).ku ok1)).cap k js
    have rs3 := RlAll.mono g3.pre (g3.ku ok2) ys vs rs
    obtain ⟨d3, n3⟩ := g3.keep D _ d2 n2
    refine ⟨as2, capE k js ρ, S2, _, ok3, en3, rx, mono_tg g (fun ρ2 q σ2 en2 => ?_) h⟩
    refine ⟨as2, ρ2, S2, ok3, en2, mt _ _ _ _ (fun b S4 q as4 H4 g4 ok4 => ?_) q⟩
    obtain ⟨d4, n4⟩ := g4.keep D _ d3 n3
    have rs4 := RlAll.mono g4.pre (g4.ku ok3) ys vs rs3
    refine ite_imp (fun q => ?_) (fun q => ?_) q
    · refine ⟨as4, ρ2, S4, ok4, en2.mono g4.pre (g4.ku ok3), me _ _ _ _ (fun y S5 q as5 H5 v g5 ok5 rv => ?_) q⟩
      obtain ⟨d5, n5⟩ := g5.keep D _ d4 n4
      have rs5 := RlAll.mono g5.pre (g5.ku ok4) ys vs rs4
      refine ⟨d5, by rw [rs.length]; exact big_lt q.1, as5, S5, ys ++ [y], ?_, ok5.other d5 n5, n5, upd_same, ?_, q.2⟩
      · refine ⟨(((g2.trans g3).trans g4).trans g5).pre, fun b o hb nb => ?_⟩
        obtain ⟨z1, z2⟩ := (((g2.trans g3).trans g4).trans g5).keep b o hb nb
        exact ⟨by rw [upd_ne (ne_of_none hb hD)]; exact z1, z2⟩
      · exact RlAll.mono (List.prefix_refl _) (keepU_set d5 rfl) _ _ (rs5.append (.cons rv .nil))
    · exact ⟨as4, S4, ys, (g2.trans g3).trans g4, ok4, n4, d4, rs4, q⟩
  · left
    have hi' : i = xs.length := by omega
    subst hi'
    rw [List.drop_length] at h
    unfold wTurns at h
    obtain ⟨kp, h⟩ := h
    obtain ⟨_, w2⟩ := W as2 H2 S2 g2 ok2 kp
    refine ⟨w2, h (as2 ++ [D]) H2 (.ref D) ?_ (ok2.adopt n2 d2 rs) (rl_loc.mpr ⟨D, by rw [← ok2.len, List.getElem?_concat_length], rfl⟩)⟩
    refine ⟨(g1.pre.trans g2.pre).trans (List.prefix_append _ _), fun b o hb nb => ?_⟩
    obtain ⟨h1, n1⟩ := g1.keep b o hb nb
    obtain ⟨h2, n2'⟩ := g2.keep b o h1 n1
    refine ⟨h2, ?_⟩
    rw [List.mem_append, List.mem_singleton]
    rintro (z | z)
    · exact n2' z
    · exact ne_of_none h1 hD z
theorem relS_lookup {scope sc : Scope} {x : Str} (h : scope.names.lookup x = some .local) : (relS scope sc).names.lookup x = some .local := by
  have go : ∀ l : List (Str × NameKind), l.lookup x = some .local → (l.map fun (n, k) => if (k == .free && sc.kind == .function && sc.names.lookup n == some .cell) then (n, .cell) else (n, k)).lookup x = some .local := by
    intro l
    induction l with
    | nil => intro h; cases h
    | cons a r ih =>
      obtain ⟨n, k⟩ := a
      intro h
      rw [List.lookup_cons] at h
      rw [List.map_cons]
      cases hb : x == n with
      | true =>
        rw [hb] at h
        have : k = .local := Option.some.inj h
        subst this
        show List.lookup x ((n, NameKind.local) :: _) = _
        rw [List.lookup_cons, hb]
      | false =>
        rw [hb] at h
        have e : ∀ k', List.lookup x ((n, k') :: (r.map fun (n, k) => if (k == .free && sc.kind == .function && sc.names.lookup n == some .cell) then (n, .cell) else (n, k))) = some .local := fun k' => by
          rw [List.lookup_cons, hb]; exact ih h
        show List.lookup x ((if (k == .free && sc.kind == .function && sc.names.lookup n == some .cell) = true then (n, NameKind.cell) else (n, k)) :: _) = _
        split <;> exact e _
  exact go _ h
theorem Cok.comp {T : List Str} {Δ : Nat → Sn} {X : Cx} {k : Nat} {N : List Str} {sc scope : Scope} {own cn : List Str} {js : List Nat} (C : Cok T Δ X k N sc) (hok : compOk sc scope own cn N js = true) (s2 : Shared) (H2 : Hp) (cs : List (Str × Addr)) (A : Addr) (fp : List Addr) : Cok T Δ (compCx X scope (own ++ cn) s2 H2 cs A fp) own.length (own ++ cn) (relS scope sc) where
  hN := rfl
  hs := by rw [← C.hs]; rfl
  nd := by
    unfold compOk at hok
    simp only [Bool.and_eq_true, decide_eq_true_eq] at hok
    exact hok.1.2
  calm := C.calm
  fn := fun i x hi hx hc => by
    unfold compOk at hok
    simp only [Bool.and_eq_true, decide_eq_true_eq, List.all_eq_true, Bool.or_eq_true] at hok
    have hm : x ∈ own := by
      rw [List.getElem?_append_left hi] at hx
      exact List.mem_of_getElem? hx
    show (scope.names.lookup x == some .cell) = true
    rcases hok.1.1.1.2 x hm with h | h
    · rw [relS_lookup h] at hc; cases hc
    · rw [h]; rfl
  un := C.un
  bl := C.bl
  rng := C.rng
  enm := C.enm
  zip := C.zip
  st0 := C.st0
  dc0 := C.dc0
  ty := C.ty
  gd := C.gd
  call := C.call
  mono := C.mono
theorem notSet_folded {r : Expr} (h : notSet r = true) {env : Env} : ∀ x, foldedSetIterable r env x = pure x := fun x => by cases r <;> first | rfl | cases h
theorem all_stars {T N : List Str} {sc : Scope} : ∀ {es : Exs} {rs : List Expr}, chkEs T N sc es rs = true → rs.all notStar = true
  | .nil, rs, h => by unfold chkEs at h; rw [List.isEmpty_iff] at h; subst h; rfl
  | .cons e es, rs, h => by
    unfold chkEs at h
    replace h := any_some h
    obtain ⟨x, hx, h⟩ := h
    simp only [Bool.and_eq_true] at h
    rw [head_eq hx, List.all_cons, h.1.2, all_stars h.2]; rfl
theorem nmB_pe {X : Cx} {i : Nat} {x : Str} {p : Pos} {N : List Str} {sc : Scope} {T : List Str} {Δ : Nat → Sn} {k : Nat} (C : Cok T Δ X k N sc) (h : nmB N sc i x = true) : PE X (.Name x p) (tVar i) := by
  unfold nmB at h
  simp only [Bool.and_eq_true, decide_eq_true_eq, Bool.not_eq_true'] at h
  exact var_pe C h.1.1.1 h.1.1.2 h.1.2 h.2
theorem args_ne {α : Type} {l : List α} (h : (!l.isEmpty) = true) : ∃ y ys, l = y :: ys := by
  cases l with
  | nil => cases h
  | cons y ys => exact ⟨y, ys, rfl⟩
theorem ife_of {X : Cx} {c : Expr} {a : WE × WT} (h : Good X c a) : PIfs X [c] (liftT X.K a.2) := pifs_one h.pt
theorem pifs_yes {X : Cx} : PIfs X [] (liftT X.K wYes) := fun pins s σ H Q I hw => pifs_nil pins s σ H Q I (let ⟨as, ρ, S, ok, en, h⟩ := hw; h as H (Go.refl _ _) ok)
theorem comp_sound {T : List Str} {Δ : Nat → Sn} {X : Cx} {k : Nat} {N : List Str} {sc scope : Scope} {own cn : List Str} {js : List Nat} {tg ri re : Expr} {ifs : List Expr} {p : Pos} {g : Tg} {i : WI} {t : WT} {e : WE × WT} (C : Cok T Δ X k N sc) (hok : compOk sc scope own cn N js = true) (hi : GoodI X tg ri i)
    (hg : ∀ s2 H2 cs A fp, PG (compCx X scope (own ++ cn) s2 H2 cs A fp) tg (liftG X.K g)) (ht : ∀ s2 H2 cs A fp, PIfs (compCx X scope (own ++ cn) s2 H2 cs A fp) ifs (liftT X.K t)) (mt : MonoT t) (he : ∀ s2 H2 cs A fp, PE (compCx X scope (own ++ cn) s2 H2 cs A fp) re (lift X.K e.1)) (me : Mono e.1) (hn : notSet ri = true) :
    Good X (.ListComp re [⟨tg, ri, ifs, 0⟩] scope p) (tt1 (wComp own.length js g i t e.1)) :=
  .one (pe_via _ (pe_comp own cn js hi.pi hg ht he C.calm (by rw [C.hs, C.hN]; exact hok) (notSet_folded hn)) (comp_via hi.m mt me)) (.comp hi.m mt me) rfl
mutual
theorem ex_sound {T : List Str} {Δ : Nat → Sn} : ∀ (e : Ex) (r : Expr) {X : Cx} {k : Nat} {N : List Str} {sc : Scope}, Cok T Δ X k N sc → chkE T N sc e r = true → Good X r (wEx Δ e)
  | .var i, r, X, k, N, sc, C, h => by
    replace h := any_some h
    obtain ⟨x, hx, h⟩ := h
    obtain ⟨p, rfl⟩ := vName_eq hx
    exact .one (pe_via _ (nmB_pe C h) var_via) .var rfl
  | .c x, r, X, k, N, sc, C, h => by
    replace h := any_some h
    obtain ⟨x, hx, h⟩ := h
    obtain ⟨j, p, rfl⟩ := vConst_eq hx
    exact c_sound h
  | .op o a b, r, X, k, N, sc, C, h => by
    replace h := any_some h
    obtain ⟨v, hv, h⟩ := h
    obtain ⟨p, rfl⟩ := vBin_eq hv
    simp only [Bool.and_eq_true, decide_eq_true_eq] at h
    have ga := ex_sound a _ C h.1.2
    have gb := ex_sound b _ C h.2
    rw [← h.1.1]
    exact .one (op_sound ga.pe gb.pe ga.m gb.m) (.two mono_op ga.m gb.m) rfl
  | .neg a, r, X, k, N, sc, C, h => by
    replace h := any_some h
    obtain ⟨v, hv, h⟩ := h
    obtain ⟨p, rfl⟩ := vUn_eq hv
    simp only [Bool.and_eq_true, decide_eq_true_eq] at h
    rw [h.1]
    exact neg_sound (ex_sound a _ C h.2)
  | .cmp o a b, r, X, k, N, sc, C, h => by
    replace h := any_some h
    obtain ⟨v, hv, h⟩ := h
    replace h := any_some h
    obtain ⟨rb, hb, h⟩ := h
    obtain ⟨p, rfl⟩ := vCmp_eq hv
    simp only [Bool.and_eq_true, decide_eq_true_eq] at h
    obtain ⟨⟨⟨h0, h1⟩, h2⟩, h3⟩ := h
    rw [h0, l1_eq hb]
    have ga := ex_sound a _ C h1
    have gb := ex_sound b _ C h2
    have := C.un
    exact cmp_sound (by omega) ga.pe gb.pe ga.m gb.m h3
  | .chn o p a b c, r, X, k, N, sc, C, h => by
    replace h := any_some h
    obtain ⟨v, hv, h⟩ := h
    replace h := any_some h
    obtain ⟨rs, hb, h⟩ := h
    obtain ⟨p, rfl⟩ := vCmp_eq hv
    simp only [Bool.and_eq_true, decide_eq_true_eq] at h
    obtain ⟨⟨⟨⟨h0, h1⟩, h2⟩, h3⟩, h4⟩ := h
    rw [h0, l2_eq hb]
    have ga := ex_sound a _ C h1
    have gb := ex_sound b _ C h2
    have gc := ex_sound c _ C h3
    have := C.un
    exact chn_sound (by omega) ga.pe gb.pe gc.pe ga.m gb.m gc.m h4
  | .and a b, r, X, k, N, sc, C, h => by
    replace h := any_some h
    obtain ⟨v, hv, h⟩ := h
    have e := vBool_eq hv
    subst e
    rw [Bool.and_eq_true, decide_eq_true_eq] at h
    obtain ⟨h0, h⟩ := h
    replace h := any_some h
    obtain ⟨x, hx, h⟩ := h
    rw [Bool.and_eq_true] at h
    have ga := ex_sound a _ C h.1
    rw [h0, head_eq hx]
    have h2 := h.2
    generalize v.2.1.tail = tl at h2
    cases hl : l1 tl with
    | some y =>
      rw [hl] at h2
      rw [l1_eq hl]
      exact and_sound2 ga (ex_sound b _ C h2)
    | none =>
      rw [hl] at h2
      rw [Bool.and_eq_true, decide_eq_true_eq] at h2
      have gb := ex_sound b _ C h2.2
      match tl, h2, gb with
      | y :: z :: zs, h2, gb => exact and_sound3 ga gb
      | [], h2, _ => exact absurd h2.1 (by simp)
      | [_], h2, _ => exact absurd h2.1 (by simp)
  | .or a b, r, X, k, N, sc, C, h => by
    replace h := any_some h
    obtain ⟨v, hv, h⟩ := h
    have e := vBool_eq hv
    subst e
    rw [Bool.and_eq_true, decide_eq_true_eq] at h
    obtain ⟨h0, h⟩ := h
    replace h := any_some h
    obtain ⟨x, hx, h⟩ := h
    rw [Bool.and_eq_true] at h
    have ga := ex_sound a _ C h.1
    rw [h0, head_eq hx]
    have h2 := h.2
    generalize v.2.1.tail = tl at h2
    cases hl : l1 tl with
    | some y =>
      rw [hl] at h2
      rw [l1_eq hl]
      exact or_sound2 ga (ex_sound b _ C h2)
    | none =>
      rw [hl] at h2
      rw [Bool.and_eq_true, decide_eq_true_eq] at h2
      have gb := ex_sound b _ C h2.2
      match tl, h2, gb with
      | y :: z :: zs, h2, gb => exact or_sound3 ga gb
      | [], h2, _ => exact absurd h2.1 (by simp)
      | [_], h2, _ => exact absurd h2.1 (by simp)
  | .not a, r, X, k, N, sc, C, h => by
    replace h := any_some h
    obtain ⟨v, hv, h⟩ := h
    obtain ⟨p, rfl⟩ := vUn_eq hv
    simp only [Bool.and_eq_true, decide_eq_true_eq] at h
    rw [h.1]
    exact not_sound (ex_sound a _ C h.2)
  | .ife t a b, r, X, k, N, sc, C, h => by
    replace h := any_some h
    obtain ⟨v, hv, h⟩ := h
    obtain ⟨p, rfl⟩ := vIfE_eq hv
    simp only [Bool.and_eq_true] at h
    exact ife_sound (ex_sound t _ C h.1.1) (ex_sound a _ C h.1.2) (ex_sound b _ C h.2)
  | .tup es, r, X, k, N, sc, C, h => by
    replace h := any_some h
    obtain ⟨v, hv, h⟩ := h
    obtain ⟨j, p, rfl⟩ := vTup_eq hv
    exact tup_sound (exs_sound es _ C h)
  | .lst es, r, X, k, N, sc, C, h => by
    replace h := any_some h
    obtain ⟨v, hv, h⟩ := h
    obtain ⟨p, rfl⟩ := vLst_eq hv
    exact lst_sound (exs_sound es _ C h)
  | .ix a b, r, X, k, N, sc, C, h => by
    replace h := any_some h
    obtain ⟨v, hv, h⟩ := h
    obtain ⟨p, rfl⟩ := vSub_eq hv
    simp only [Bool.and_eq_true] at h
    exact ix_sound (ex_sound a _ C h.1.1) (ex_sound b _ C h.1.2) h.2
  | .slc a lo hi, r, X, k, N, sc, C, h => Bool.noConfusion (show false = true from h)
  | .call f es, r, X, k, N, sc, C, h => by
    replace h := any_some h
    obtain ⟨v, hv, h⟩ := h
    obtain ⟨p, q, rfl⟩ := vFn_eq hv
    simp only [Bool.and_eq_true, decide_eq_true_eq] at h
    obtain ⟨⟨⟨h1, h2⟩, h3⟩, h4⟩ := h
    obtain ⟨y, ys, e⟩ := args_ne h4
    have st := all_stars h3
    have g := exs_sound es _ C h3
    rw [e] at st g ⊢
    rw [List.all_cons, Bool.and_eq_true] at st
    exact call_sound C h1 h2 g st.1 st.2
  | .bi b es, r, X, k, N, sc, C, h => by
    replace h := any_some h
    obtain ⟨v, hv, h⟩ := h
    obtain ⟨p, q, rfl⟩ := vFn_eq hv
    simp only [Bool.and_eq_true, decide_eq_true_eq] at h
    obtain ⟨⟨⟨h1, h2⟩, h3⟩, h4⟩ := h
    obtain ⟨y, ys, e⟩ := args_ne h4
    have st := all_stars h3
    have g := exs_sound es _ C h3
    rw [e] at st g ⊢
    rw [List.all_cons, Bool.and_eq_true] at st
    rw [← h1] at h2 ⊢
    exact bi_sound C h2 g st.1 st.2
  | .mt m a es, r, X, k, N, sc, C, h => by
    replace h := any_some h
    obtain ⟨v, hv, h⟩ := h
    obtain ⟨ap, cp, rfl, hl⟩ := vMt_eq hv
    simp only [Bool.and_eq_true, decide_eq_true_eq] at h
    obtain ⟨⟨⟨⟨h0, h1⟩, h3⟩, h4⟩, h5⟩ := h
    have st := all_stars h5
    have ga := ex_sound a _ C h4
    have gs := exs_sound es _ C h5
    rw [h0]
    generalize v.2.2 = args at h3 h5 st gs ⊢
    cases args with
    | nil =>
      cases es with
      | nil => exact mt0_sound ga h1 hl
      | cons _ _ => rw [chkEs] at h5; cases h5
    | cons y ys =>
      rw [List.all_cons, Bool.and_eq_true] at st
      exact mt_sound ga gs h1 hl h3 st.1 st.2
  | .comp own cn js g it t e, r, X, k, N, sc, C, h => by
    replace h := any_some h
    obtain ⟨v, hv, h⟩ := h
    replace h := any_some h
    obtain ⟨c, hc, h⟩ := h
    obtain ⟨p, rfl⟩ := vComp_eq hv
    simp only [Bool.and_eq_true, decide_eq_true_eq] at h
    obtain ⟨⟨⟨⟨⟨⟨h0, h1⟩, h2⟩, h3⟩, h4⟩, h5⟩, h6⟩ := h
    have hI := itb_sound it _ _ C h3
    have hT := fun s2 H2 cs A fp => if_sound t _ (C.comp h1 s2 H2 cs A fp) h5
    have hE := fun s2 H2 cs A fp => ex_sound e _ (C.comp h1 s2 H2 cs A fp) h6
    rw [l1_eq hc]
    obtain ⟨tg, ri, ifs, az⟩ := c
    have h0 : az = 0 := h0
    subst h0
    exact comp_sound C h1 hI (fun s2 H2 cs A fp => tg_sound (C.comp h1 s2 H2 cs A fp) g _ h2) (fun s2 H2 cs A fp => (hT s2 H2 cs A fp).1) (hT X.s₀ X.H₀ [] 0 []).2 (fun s2 H2 cs A fp => (hE s2 H2 cs A fp).pe) (hE X.s₀ X.H₀ [] 0 []).m h4
  | .tyc t, r, X, k, N, sc, C, h => by
    replace h := any_some h
    obtain ⟨x, hx, h⟩ := h
    obtain ⟨p, rfl⟩ := vName_eq hx
    simp only [Bool.and_eq_true, decide_eq_true_eq] at h
    obtain ⟨⟨rfl, h1⟩, h2⟩ := h
    exact tyc_sound C h1 h2
  | .lrng1 a, r, X, k, N, sc, C, h => by
    replace h := any_some h
    obtain ⟨v, hv, h⟩ := h
    replace h := any_some h
    obtain ⟨z, hz, h⟩ := h
    replace h := any_some h
    obtain ⟨u, hu, h⟩ := h
    replace h := any_some h
    obtain ⟨ra, hra, h⟩ := h
    obtain ⟨p, q, rfl⟩ := vFn_eq hv
    obtain ⟨p2, q2, rfl⟩ := vFn_eq hu
    simp only [Bool.and_eq_true, decide_eq_true_eq] at h
    obtain ⟨⟨⟨⟨⟨e1, e2⟩, h1⟩, h2⟩, h3⟩, h4⟩ := h
    rw [l1_eq hz, l1_eq hra, e1, e2]
    rw [e1] at h1
    rw [e2] at h2
    exact lrng1_sound C h1 h2 (ex_sound a _ C h3) h4
  | .lrng2 a b, r, X, k, N, sc, C, h => Bool.noConfusion (show false = true from h)
  | .rev a, r, X, k, N, sc, C, h => by
    replace h := any_some h
    obtain ⟨v, hv, h⟩ := h
    replace h := any_some h
    obtain ⟨w, hw, h⟩ := h
    obtain ⟨p, rfl⟩ := vSub_eq hv
    obtain ⟨p2, ew⟩ := vSlc_eq hw
    rw [Bool.and_eq_true, Bool.and_eq_true] at h
    obtain ⟨⟨n1, n2⟩, h⟩ := h
    replace h := any_some h
    obtain ⟨st, hst, h⟩ := h
    replace h := any_some h
    obtain ⟨u, hu, h⟩ := h
    obtain ⟨p3, rfl⟩ := vUn_eq hu
    rw [Bool.and_eq_true, decide_eq_true_eq] at h
    obtain ⟨e1, h⟩ := h
    replace h := any_some h
    obtain ⟨c, hc, h⟩ := h
    obtain ⟨j, p4, ec⟩ := vConst_eq hc
    rw [Bool.and_eq_true, decide_eq_true_eq] at h
    rw [ew, Option.isNone_iff_eq_none.mp n1, Option.isNone_iff_eq_none.mp n2, hst, e1, ec, h.1]
    exact rev_sound (ex_sound a _ C h.2)
  | .set0, r, X, k, N, sc, C, h => by
    replace h := any_some h
    obtain ⟨v, hv, h⟩ := h
    obtain ⟨p, q, rfl⟩ := vFn_eq hv
    simp only [Bool.and_eq_true, decide_eq_true_eq, List.isEmpty_iff] at h
    obtain ⟨⟨e1, h1⟩, h2⟩ := h
    rw [e1] at h1
    rw [e1, h2]
    exact set0_sound C h1
  | .sadd a e, r, X, k, N, sc, C, h => by
    replace h := any_some h
    obtain ⟨v, hv, h⟩ := h
    replace h := any_some h
    obtain ⟨re, hre, h⟩ := h
    obtain ⟨ap, cp, rfl, hl⟩ := vMt_eq hv
    simp only [Bool.and_eq_true, decide_eq_true_eq] at h
    obtain ⟨⟨⟨⟨e1, h1⟩, h3⟩, h4⟩, h5⟩ := h
    rw [l1_eq hre, e1]
    exact sadd_sound (ex_sound a _ C h3) (ex_sound e _ C h4) h1 hl h5
  | .lenset a, r, X, k, N, sc, C, h => by
    replace h := any_some h
    obtain ⟨v, hv, h⟩ := h
    replace h := any_some h
    obtain ⟨z, hz, h⟩ := h
    replace h := any_some h
    obtain ⟨u, hu, h⟩ := h
    replace h := any_some h
    obtain ⟨ra, hra, h⟩ := h
    obtain ⟨p, q, rfl⟩ := vFn_eq hv
    obtain ⟨p2, q2, rfl⟩ := vFn_eq hu
    simp only [Bool.and_eq_true, decide_eq_true_eq] at h
    obtain ⟨⟨⟨⟨⟨e1, e2⟩, h1⟩, h2⟩, h3⟩, h4⟩ := h
    rw [e1] at h1
    rw [e2] at h2
    rw [l1_eq hz, l1_eq hra, e1, e2]
    exact lenset_sound C h1 h2 (ex_sound a _ C h3) h4
  | .srtset a, r, X, k, N, sc, C, h => Bool.noConfusion (show false = true from h)
  | .setl a, r, X, k, N, sc, C, h => Bool.noConfusion (show false = true from h)
  | .dctl a, r, X, k, N, sc, C, h => by
    replace h := any_some h
    obtain ⟨v, hv, h⟩ := h
    replace h := any_some h
    obtain ⟨ra, hra, h⟩ := h
    obtain ⟨p, q, rfl⟩ := vFn_eq hv
    simp only [Bool.and_eq_true, decide_eq_true_eq] at h
    obtain ⟨⟨⟨e1, h1⟩, h3⟩, h4⟩ := h
    rw [e1] at h1
    rw [l1_eq hra, e1]
    exact dctl_sound C h1 (ex_sound a _ C h3) h4
  | .dnew , r, X, k, N, sc, C, h => Bool.noConfusion (show false = true from h)
  | .dget a b, r, X, k, N, sc, C, h => by
    replace h := any_some h
    obtain ⟨v, hv, h⟩ := h
    obtain ⟨p, rfl⟩ := vSub_eq hv
    simp only [Bool.and_eq_true] at h
    have := C.un
    exact dget_sound (by omega) (ex_sound a _ C h.1.1) (ex_sound b _ C h.1.2) h.2
  | .din n a b, r, X, k, N, sc, C, h => Bool.noConfusion (show false = true from h)
  | .no, r, X, k, N, sc, C, h => .never
theorem exs_sound {T : List Str} {Δ : Nat → Sn} : ∀ (es : Exs) (rs : List Expr) {X : Cx} {k : Nat} {N : List Str} {sc : Scope}, Cok T Δ X k N sc → chkEs T N sc es rs = true → GoodA X rs (wExs Δ es)
  | .nil, rs, X, k, N, sc, C, h => by
    rw [chkEs, List.isEmpty_iff] at h
    subst h
    exact nil_sound
  | .cons e es, rs, X, k, N, sc, C, h => by
    rw [chkEs] at h
    replace h := any_some h
    obtain ⟨x, hx, h⟩ := h
    simp only [Bool.and_eq_true] at h
    rw [head_eq hx]
    exact cons_sound (ex_sound e _ C h.1.1) (exs_sound es _ C h.2) h.1.2
theorem eo_sound {T : List Str} {Δ : Nat → Sn} : ∀ (o : Eo) (r : Option Expr) {X : Cx} {k : Nat} {N : List Str} {sc : Scope}, Cok T Δ X k N sc → chkO T N sc o r = true → PO X r (liftO X.K (wEo Δ o).1) ∧ MonoO (wEo Δ o).1
  | .no, r, X, k, N, sc, C, h => by
    rw [chkO] at h
    rw [Option.isNone_iff_eq_none.mp h]
    exact ⟨po_no, .no⟩
  | .yes e, r, X, k, N, sc, C, h => by
    rw [chkO] at h
    replace h := any_some h
    obtain ⟨x, hx, h⟩ := h
    subst hx
    exact ⟨po_yes (ex_sound e _ C h), .yes (ex_sound e _ C h).m⟩
theorem if_sound {T : List Str} {Δ : Nat → Sn} : ∀ (o : Eo) (rs : List Expr) {X : Cx} {k : Nat} {N : List Str} {sc : Scope}, Cok T Δ X k N sc → chkIf T N sc o rs = true → PIfs X rs (liftT X.K (wEo Δ o).2) ∧ MonoT (wEo Δ o).2
  | .no, rs, X, k, N, sc, C, h => by
    rw [chkIf, List.isEmpty_iff] at h
    subst h
    exact ⟨pifs_yes, fun _ _ _ _ i q => i _ _ q⟩
  | .yes e, rs, X, k, N, sc, C, h => by
    rw [chkIf] at h
    replace h := any_some h
    obtain ⟨x, hx, h⟩ := h
    rw [l1_eq hx]
    exact ⟨ife_of (ex_sound e _ C h), (ex_sound e _ C h).mt⟩
theorem itb_sound {T : List Str} {Δ : Nat → Sn} : ∀ (it : Itb) (tg r : Expr) {X : Cx} {k : Nat} {N : List Str} {sc : Scope}, Cok T Δ X k N sc → chkI T N sc it tg r = true → GoodI X tg r (wItb Δ it)
  | .seq e, tg, r, X, k, N, sc, C, h => by
    exact seq_sound (ex_sound e _ C h)
  | .rng1 a, tg, r, X, k, N, sc, C, h => by
    replace h := any_some h
    obtain ⟨v, hv, h⟩ := h
    replace h := any_some h
    obtain ⟨ra, hra, h⟩ := h
    obtain ⟨p, q, rfl⟩ := vFn_eq hv
    simp only [Bool.and_eq_true, decide_eq_true_eq] at h
    obtain ⟨⟨⟨e1, h1⟩, h2⟩, h3⟩ := h
    rw [e1] at h1
    rw [l1_eq hra, e1]
    exact rng1_sound C h1 (ex_sound a _ C h2) h3
  | .rng2 a b, tg, r, X, k, N, sc, C, h => by
    replace h := any_some h
    obtain ⟨v, hv, h⟩ := h
    replace h := any_some h
    obtain ⟨ra, hra, h⟩ := h
    obtain ⟨p, q, rfl⟩ := vFn_eq hv
    simp only [Bool.and_eq_true, decide_eq_true_eq] at h
    obtain ⟨⟨⟨⟨⟨e1, h1⟩, h2⟩, h3⟩, h4⟩, h5⟩ := h
    rw [e1] at h1
    rw [l2_eq hra, e1]
    exact rng2_sound C h1 (ex_sound a _ C h2) (ex_sound b _ C h4) h3 h5
  | .enum e, tg, r, X, k, N, sc, C, h => by
    replace h : ((vTup tg).isSome && (vFn r).any fun v => (l1 v.2).any fun a => decide (v.1 = ("enumerate" : Str)) && glo sc v.1 && chkE T N sc e a && notStar a) = true := h
    rw [Bool.and_eq_true] at h
    obtain ⟨ht, h⟩ := h
    obtain ⟨es, he⟩ := Option.isSome_iff_exists.mp ht
    obtain ⟨j, tp, rfl⟩ := vTup_eq he
    replace h := any_some h
    obtain ⟨v, hv, h⟩ := h
    replace h := any_some h
    obtain ⟨ra, hra, h⟩ := h
    obtain ⟨p, q, rfl⟩ := vFn_eq hv
    simp only [Bool.and_eq_true, decide_eq_true_eq] at h
    obtain ⟨⟨⟨e1, h1⟩, h2⟩, h3⟩ := h
    rw [e1] at h1
    rw [l1_eq hra, e1]
    exact enum_sound C h1 (ex_sound e _ C h2) h3
  | .zip i j, tg, r, X, k, N, sc, C, h => Bool.noConfusion (show false = true from h)
  | .rngT a b, tg, r, X, k, N, sc, C, h => Bool.noConfusion (show false = true from h)
  | .dk e, tg, r, X, k, N, sc, C, h => by
    exact dk_sound (ex_sound e _ C h)
end
end Rf
set_option Elab.async false
set_option linter.all false
set_option maxRecDepth 100000
set_option maxHeartbeats 1000000
namespace Rf
open PySem L2
noncomputable def isComp : Expr → Option Scope
  | .ListComp _ _ s _ => some s
  | .SetComp _ _ s _ => some s
  | .DictComp _ _ _ s _ => some s
  | _ => none
noncomputable def swapB (sc : Scope) (e : Expr) (x : Str) (px : Pos) : Bool := match isComp e with
  | none => false
  | some s => sc.names.lookup x == some .local && px.line == e.pos.line && !(s.names.any fun (n, k) => n == x && (k == .local || k == .cell))
theorem swap_eq {env : Env} {e : Expr} {x : Str} {px : Pos} {l : Nat} (hk : env.scope.kind = .function) : swapsWith e (some (.Name x px)) l env = pure (swapB env.scope e x px) := by
  have hb : env.blockKind = .function := by unfold Env.blockKind; rw [hk]; rfl
  unfold swapsWith swapB isComp
  cases e <;> first
    | rfl
    | (show (pure _ : Sem Bool) = _; rw [hb]; rfl)
noncomputable def notTup : Expr → Bool
  | .Tuple .. => false
  | _ => true
noncomputable def parB (sc : Scope) (x y : Str) (px py : Pos) : Bool := sc.names.lookup x == some .local && sc.names.lookup y == some .local && px.line == py.line && !(x == y)
noncomputable def vNameP : Expr → Option (Str × Pos)
  | .Name x p => some (x, p)
  | _ => none
theorem vNameP_eq {r : Expr} {x : Str × Pos} (h : vNameP r = some x) : r = .Name x.1 x.2 := by cases r <;> first | (cases h; rfl) | exact no_of h
noncomputable def vAsg : Stmt → Option (List Expr × Expr)
  | .Assign ts e _ => some (ts, e)
  | _ => none
noncomputable def vExp : Stmt → Option Expr
  | .Expr e _ => some e
  | _ => none
noncomputable def vIfS : Stmt → Option (Expr × List Stmt × List Stmt)
  | .If t a b _ => some (t, a, b)
  | _ => none
noncomputable def vFor : Stmt → Option (Expr × Expr × List Stmt × List Stmt)
  | .For g i b o _ => some (g, i, b, o)
  | _ => none
noncomputable def vWhl : Stmt → Option (Expr × List Stmt × List Stmt)
  | .While t b o _ => some (t, b, o)
  | _ => none
noncomputable def vRet : Stmt → Option (Option Expr)
  | .Return e _ => some e
  | _ => none
theorem vAsg_eq {r : Stmt} {x : List Expr × Expr} (h : vAsg r = some x) : ∃ p, r = .Assign x.1 x.2 p := by cases r <;> first | (cases h; exact ⟨_, rfl⟩) | exact no_of h
theorem vExp_eq {r : Stmt} {x : Expr} (h : vExp r = some x) : ∃ p, r = .Expr x p := by cases r <;> first | (cases h; exact ⟨_, rfl⟩) | exact no_of h
theorem vIfS_eq {r : Stmt} {x : Expr × List Stmt × List Stmt} (h : vIfS r = some x) : ∃ p, r = .If x.1 x.2.1 x.2.2 p := by cases r <;> first | (cases h; exact ⟨_, rfl⟩) | exact no_of h
theorem vFor_eq {r : Stmt} {x : Expr × Expr × List Stmt × List Stmt} (h : vFor r = some x) : ∃ p, r = .For x.1 x.2.1 x.2.2.1 x.2.2.2 p := by cases r <;> first | (cases h; exact ⟨_, rfl⟩) | exact no_of h
theorem vWhl_eq {r : Stmt} {x : Expr × List Stmt × List Stmt} (h : vWhl r = some x) : ∃ p, r = .While x.1 x.2.1 x.2.2 p := by cases r <;> first | (cases h; exact ⟨_, rfl⟩) | exact no_of h
theorem vRet_eq {r : Stmt} {x : Option Expr} (h : vRet r = some x) : ∃ p, r = .Return x p := by cases r <;> first | (cases h; exact ⟨_, rfl⟩) | exact no_of h
noncomputable def isLC (e : Expr) : Bool := (vComp e).any fun v => (l1 v.2.1).isSome
noncomputable def asgB (sc : Scope) (rt re : Expr) : Bool := match vNameP rt with
  | some x => !swapB sc re x.1 x.2 || isLC re
  | none => (vTup rt).isSome && notTup re
mutual
noncomputable def chkS (T : List Str) (N : List Str) (sc : Scope) : Stm → Stmt → Bool
  | .asg t e, r => (vAsg r).any fun v => (l1 v.1).any fun rt => chkTg N.length N sc t rt && chkE T N sc e v.2 && notStar rt && asgB sc rt v.2
  | .par i j a b, r => (vAsg r).any fun v => (l1 v.1).any fun rt => (vTup rt).any fun ts => (l2 ts).any fun nn => (vTup v.2).any fun vs => (l2 vs).any fun ab => (vNameP nn.1).any fun x => (vNameP nn.2).any fun y =>
      decide (N[i]? = some x.1) && decide (N[j]? = some y.1) && decide (i ≠ j) && parB sc x.1 y.1 x.2 y.2 && chkE T N sc a ab.1 && chkE T N sc b ab.2 && notStar ab.1 && notStar ab.2 && !([ab.1, ab.2].all (foldedForSure 8)) && !([ab.1, ab.2].all (constantsAlone 8))
  | .put o i e, r => (vAsg r).any fun v => (l1 v.1).any fun rt => (vSub rt).any fun oi => chkE T N sc o oi.1 && chkE T N sc i oi.2 && chkE T N sc e v.2 && notSlice oi.2
  | .dput o i e, r => (vAsg r).any fun v => (l1 v.1).any fun rt => (vSub rt).any fun oi => chkE T N sc o oi.1 && chkE T N sc i oi.2 && chkE T N sc e v.2 && notSlice oi.2
  | .expr e, r => (vExp r).any fun re => chkE T N sc e re && (isComp re).isNone
  | .iff t a b, r => (vIfS r).any fun v => chkE T N sc t v.1 && chkSs T N sc a v.2.1 && chkSs T N sc b v.2.2
  | .loop g it b, r => (vFor r).any fun v => chkTg N.length N sc g v.1 && chkI T N sc it v.1 v.2.1 && notSet v.2.1 && chkSs T N sc b v.2.2.1 && v.2.2.2.isEmpty
  | .whl t b, r => (vWhl r).any fun v => chkE T N sc t v.1 && chkSs T N sc b v.2.1 && v.2.2.isEmpty
  | .ret e, r => (vRet r).any fun o => o.any fun re => chkE T N sc e re
  | .retN , _ => false
  | .brk , _ => false
  | .cnt , _ => false
  | .pass , _ => false
  | .no, _ => true
noncomputable def chkSs (T : List Str) (N : List Str) (sc : Scope) : List Stm → List Stmt → Bool
  | [], r => r.isEmpty
  | s :: ss, r => (r.head?).any fun x => chkS T N sc s x && chkSs T N sc ss r.tail
end
noncomputable def liftD (K : PySem.W.Frag) (as : List Addr) (H : Hp) (D : Ends) : EndsS where
  nx := fun ρ' S' => ∀ as' H' σ', Go as H as' H' → Ok K as' H' S' → EnvOk K as' H' σ' ρ' → D.nx σ' H'
  rt := Post K as H D.rt
  bk := fun ρ' S' => ∀ as' H' σ', Go as H as' H' → Ok K as' H' S' → EnvOk K as' H' σ' ρ' → D.bk σ' H'
  ct := fun ρ' S' => ∀ as' H' σ', Go as H as' H' → Ok K as' H' S' → EnvOk K as' H' σ' ρ' → D.ct σ' H'
noncomputable def liftS (K : PySem.W.Frag) (w : WS) : TS := fun D σ H => ∃ as ρ S, Ok K as H S ∧ EnvOk K as H σ ρ ∧ w (liftD K as H D) ρ S
structure Le (D D' : EndsS) : Prop where
  nx : ∀ ρ S, D.nx ρ S → D'.nx ρ S
  rt : ∀ x S, D.rt x S → D'.rt x S
  bk : ∀ ρ S, D.bk ρ S → D'.bk ρ S
  ct : ∀ ρ S, D.ct ρ S → D'.ct ρ S
noncomputable def MonoS (w : WS) : Prop := ∀ D D' ρ S, Le D D' → w D ρ S → w D' ρ S
theorem MonoS.go {w : WS} (m : MonoS w) {D D' : EndsS} {ρ : EnvS} {S : Sto} (h : w D ρ S) (l : Le D D') : w D' ρ S := m D D' ρ S l h
theorem Le.go {K : PySem.W.Frag} {as as' : List Addr} {H H' : Hp} {D : Ends} (g : Go as H as' H') : Le (liftD K as H D) (liftD K as' H' D) where
  nx := fun ρ S h as2 H2 σ2 g2 => h as2 H2 σ2 (g.trans g2)
  rt := fun x S h => Post.mono h g
  bk := fun ρ S h as2 H2 σ2 g2 => h as2 H2 σ2 (g.trans g2)
  ct := fun ρ S h as2 H2 σ2 g2 => h as2 H2 σ2 (g.trans g2)
structure GoodS (X : Cx) (r : Stmt) (w : WS) : Prop where
  ps : PS X r (liftS X.K w)
  m : MonoS w
structure GoodSs (X : Cx) (r : List Stmt) (w : WS) : Prop where
  ps : PSs X r (liftS X.K w)
  m : MonoS w
theorem ps_via' {X : Cx} {st : Stmt} {t : TS} (t' : TS) (h : PS X st t) (imp : ∀ D σ H, t' D σ H → t D σ H) : PS X st t' := fun pins s σ H D I hw => h pins s σ H D I (imp D σ H hw)
theorem pss_via' {X : Cx} {st : List Stmt} {t : TS} (t' : TS) (h : PSs X st t) (imp : ∀ D σ H, t' D σ H → t D σ H) : PSs X st t' := fun pins s σ H D I hw => h pins s σ H D I (imp D σ H hw)
section
variable {X : Cx}
theorem snil_sound : GoodSs X [] (fun D ρ S => D.nx ρ S) := ⟨pss_via' _ pss_nil fun D σ H ⟨as, ρ, S, ok, en, h⟩ => h as H σ (Go.refl _ _) ok en, fun D D' ρ S l h => l.nx _ _ h⟩
theorem scons_sound {s : Stmt} {ss : List Stmt} {w u : WS} (h1 : GoodS X s w) (h2 : GoodSs X ss u) : GoodSs X (s :: ss) (fun D ρ S => w { D with nx := u D } ρ S) where
  ps := pss_via' _ (pss_cons h1.ps h2.ps) (by
    rintro D σ H ⟨as, ρ, S, ok, en, h⟩
    refine ⟨as, ρ, S, ok, en, h1.m.go h ⟨fun ρ' S' q as' H' σ' g ok' en' => ?_, fun _ _ h => h, fun _ _ h => h, fun _ _ h => h⟩⟩
    exact ⟨as', ρ', S', ok', en', h2.m _ _ _ _ (Le.go g) q⟩)
  m := fun D D' ρ S l h => h1.m.go (D := { D with nx := u D }) h ⟨fun ρ' S' q => h2.m _ _ _ _ l q, l.rt, l.bk, l.ct⟩
theorem asg_via {K : PySem.W.Frag} {g : Tg} {w : WE} (m : Mono w) : ∀ D σ H, liftS K (fun D ρ S => w ρ S fun x S1 => wTg g x ρ fun ρ' => D.nx ρ' S1) D σ H → tAsg (lift K w) (liftG K g) D σ H := by
  rintro D σ H ⟨as, ρ, S, ok, en, h⟩
  refine ⟨as, ρ, S, ok, en, m _ _ _ _ (fun x S1 q as1 H1 v g1 ok1 rv => ?_) h⟩
  exact ⟨as1, ρ, S1, x, ok1, en.mono g1.pre (g1.ku ok), rv, mono_tg g (fun ρ' q σ' en' => q as1 H1 σ' g1 ok1 en') q⟩
theorem asgN_via {K : PySem.W.Frag} {i : Nat} {w : WE} (m : Mono w) : ∀ D σ H, liftS K (fun D ρ S => w ρ S fun x S1 => wTg (.nm i) x ρ fun ρ' => D.nx ρ' S1) D σ H → tAsg (lift K w) (gName i) D σ H := by
  rintro D σ H ⟨as, ρ, S, ok, en, h⟩
  refine ⟨as, ρ, S, ok, en, m _ _ _ _ (fun x S1 q as1 H1 v g1 ok1 rv => ?_) h⟩
  unfold wTg at q
  exact q as1 H1 _ g1 ok1 ((en.mono g1.pre (g1.ku ok)).set rv)
theorem asg_mono {g : Tg} {w : WE} (m : Mono w) : MonoS (fun D ρ S => w ρ S fun x S1 => wTg g x ρ fun ρ' => D.nx ρ' S1) := fun D D' ρ S l h => m _ _ _ _ (fun x S1 q => mono_tg g (fun ρ' q => l.nx _ _ q) q) h
theorem if_via {K : PySem.W.Frag} {t : WT} {a b : WS} (mt : MonoT t) (ma : MonoS a) (mb : MonoS b) : ∀ D σ H, liftS K (fun D ρ S => t ρ S fun c S1 => if c = true then a D ρ S1 else b D ρ S1) D σ H → tIfS (liftT K t) (liftS K a) (liftS K b) D σ H := by
  rintro D σ H ⟨as, ρ, S, ok, en, h⟩
  refine ⟨as, ρ, S, ok, en, mt _ _ _ _ (fun c S1 q as1 H1 g1 ok1 => ?_) h⟩
  refine ite_imp (fun q => ?_) (fun q => ?_) q
  · exact ⟨as1, ρ, S1, ok1, en.mono g1.pre (g1.ku ok), ma _ _ _ _ (Le.go g1) q⟩
  · exact ⟨as1, ρ, S1, ok1, en.mono g1.pre (g1.ku ok), mb _ _ _ _ (Le.go g1) q⟩
theorem mono_loop {keep : Sto → Prop} {g : Tg} {b : WS} (mb : MonoS b) : ∀ (xs : List SV) {D D' : EndsS}, Le D D' → ∀ ρ S, wLoop keep g b D xs ρ S → wLoop keep g b D' xs ρ S
  | [], D, D', l, ρ, S, h => by unfold wLoop at h ⊢; exact ⟨h.1, l.nx _ _ h.2⟩
  | x :: xs, D, D', l, ρ, S, h => by
    unfold wLoop at h ⊢
    exact ⟨h.1, mono_tg g (fun ρ2 q => mb.go (D := { D with nx := wLoop keep g b D xs, ct := wLoop keep g b D xs, bk := D.nx }) q ⟨mono_loop mb xs l, l.rt, l.nx, mono_loop mb xs l⟩) h.2⟩
theorem for_via {K : PySem.W.Frag} {g : Tg} {i : WI} {b : WS} (mi : MonoI i) (mb : MonoS b) : ∀ D σ H, liftS K (fun D ρ S => i ρ S fun keep xs S1 => wLoop keep g b D xs ρ S1) D σ H → tFor (liftI K i) (liftG K g) (liftS K b) D σ H := by
  rintro D σ H ⟨as, ρ, S, ok, en, h⟩
  refine ⟨as, ρ, S, ok, en, mi _ _ _ _ (fun keep xs S1 h as1 H1 J g1 ok1 W => ?_) h⟩
  refine ⟨fun i m σ2 H2 => m = xs.length - i ∧ i ≤ xs.length ∧ ∃ as2 ρ2 S2, Go as1 H1 as2 H2 ∧ Ok K as2 H2 S2 ∧ EnvOk K as2 H2 σ2 ρ2 ∧ wLoop keep g b (liftD K as H D) (xs.drop i) ρ2 S2,
    ⟨xs.length, by simp, Nat.zero_le _, as1, ρ, S1, Go.refl _ _, ok1, en.mono g1.pre (g1.ku ok), h⟩, ?_⟩
  rintro i m σ2 H2 ⟨rfl, hi, as2, ρ2, S2, g2, ok2, en2, h⟩
  by_cases hlt : i < xs.length
  · right
    rw [List.drop_eq_getElem_cons hlt] at h
    unfold wLoop at h
    obtain ⟨kp, h⟩ := h
    obtain ⟨w1, _⟩ := W as2 H2 S2 g2 ok2 kp
    obtain ⟨go, yl⟩ := w1 i xs[i] (List.getElem?_eq_getElem hlt)
    refine ⟨go, fun σ' H' => ∃ as2 ρ2 S2, Go as1 H1 as2 H' ∧ Ok K as2 H' S2 ∧ EnvOk K as2 H' σ' ρ2 ∧ wLoop keep g b (liftD K as H D) (xs.drop (i + 1)) ρ2 S2, fun σ' H' z => ⟨xs.length - (i + 1), by omega, rfl, hlt, z⟩, fun x H3 y3 => ?_⟩
    obtain ⟨g3, ok3, rx⟩ := yl x H3 y3
    refine ⟨as2, ρ2, S2, _, ok3, en2.mono g3.pre (g3.ku ok2), rx, mono_tg g (fun ρ3 q σ3 en3 => ?_) h⟩
    have g03 := (g1.trans g2).trans g3
    refine ⟨as2, ρ3, S2, ok3, en3, mb.go q ⟨fun ρ' S' q as' H' σ' g' ok' en' => ?_, fun x S h => Post.mono h g03, fun ρ' S' q as' H' σ' g' ok' en' => q as' H' σ' (g03.trans g') ok' en', fun ρ' S' q as' H' σ' g' ok' en' => ?_⟩⟩
    · exact ⟨as', ρ', S', (g2.trans g3).trans g', ok', en', q⟩
    · exact ⟨as', ρ', S', (g2.trans g3).trans g', ok', en', q⟩
  · left
    have hi' : i = xs.length := by omega
    subst hi'
    rw [List.drop_length] at h
    unfold wLoop at h
    obtain ⟨kp, h⟩ := h
    obtain ⟨_, w2⟩ := W as2 H2 S2 g2 ok2 kp
    exact ⟨w2, h as2 H2 σ2 (g1.trans g2) ok2 en2⟩
theorem mono_whl {t : WT} {b : WS} (mt : MonoT t) (mb : MonoS b) : MonoS (wWhl t b) := fun D D' ρ S l ⟨W, w0, h⟩ => ⟨W, w0, fun m ρ S w => mt _ _ _ _ (fun c S1 q => ite_imp (fun q => mb.go (D := { D with nx := fun ρ' S' => ∃ m', m' < m ∧ W m' ρ' S', ct := fun ρ' S' => ∃ m', m' < m ∧ W m' ρ' S', bk := D.nx }) q ⟨fun _ _ h => h, l.rt, l.nx, fun _ _ h => h⟩) (fun q => l.nx _ _ q) q) (h m ρ S w)⟩
theorem whl_via {K : PySem.W.Frag} {t : WT} {b : WS} (mt : MonoT t) (mb : MonoS b) : ∀ D σ H, liftS K (wWhl t b) D σ H → tWhile (liftT K t) (liftS K b) D σ H := by
  rintro D σ H ⟨as, ρ, S, ok, en, W, ⟨m0, w0⟩, h⟩
  refine ⟨fun m σ1 H1 => ∃ as1 ρ1 S1, Go as H as1 H1 ∧ Ok K as1 H1 S1 ∧ EnvOk K as1 H1 σ1 ρ1 ∧ W m ρ1 S1, ⟨m0, as, ρ, S, Go.refl _ _, ok, en, w0⟩, ?_⟩
  rintro m σ1 H1 ⟨as1, ρ1, S1, g1, ok1, en1, w1⟩
  refine ⟨as1, ρ1, S1, ok1, en1, mt _ _ _ _ (fun c S2 q as2 H2 g2 ok2 => ?_) (h m ρ1 S1 w1)⟩
  refine ite_imp (fun q => ?_) (fun q => q as2 H2 σ1 (g1.trans g2) ok2 (en1.mono g2.pre (g2.ku ok1))) q
  refine ⟨fun σ' H' => ∃ m', m' < m ∧ ∃ as1 ρ1 S1, Go as H as1 H' ∧ Ok K as1 H' S1 ∧ EnvOk K as1 H' σ' ρ1 ∧ W m' ρ1 S1, fun σ' H' z => z, ?_⟩
  refine ⟨as2, ρ1, S2, ok2, en1.mono g2.pre (g2.ku ok1), mb.go q ⟨fun ρ' S' ⟨m', hm, w'⟩ as' H' σ' g' ok' en' => ?_, fun x S h => Post.mono h (g1.trans g2), fun ρ' S' q as' H' σ' g' ok' en' => q as' H' σ' ((g1.trans g2).trans g') ok' en', fun ρ' S' ⟨m', hm, w'⟩ as' H' σ' g' ok' en' => ?_⟩⟩
  · exact ⟨m', hm, as', ρ', S', (g1.trans g2).trans g', ok', en', w'⟩
  · exact ⟨m', hm, as', ρ', S', (g1.trans g2).trans g', ok', en', w'⟩
theorem par_via {K : PySem.W.Frag} {i j : Nat} {a b : WE} (ma : Mono a) (mb : Mono b) : ∀ D σ H, liftS K (fun D ρ S => a ρ S fun x S1 => b ρ S1 fun y S2 => D.nx ((ρ.set i (some x)).set j (some y)) S2) D σ H → tPar i j (tCons (lift K a) (tCons (lift K b) tNil)) D σ H := by
  rintro D σ H ⟨as, ρ, S, ok, en, h⟩
  refine ⟨as, ρ, S, ok, en, ma _ _ _ _ (fun x S1 q as1 H1 v g1 ok1 rv => ?_) h⟩
  refine ⟨as1, ρ, S1, ok1, en.mono g1.pre (g1.ku ok), mb _ _ _ _ (fun y S2 q as2 H2 u g2 ok2 ru => ?_) q⟩
  refine ⟨v, u, rfl, q as2 H2 _ (g1.trans g2) ok2 ?_⟩
  exact (((en.mono g1.pre (g1.ku ok)).mono g2.pre (g2.ku ok1)).set (Rl.mono g2.pre (g2.ku ok1) x v rv)).set ru
theorem mono_put {x y v : SV} {S : Sto} {P P' : Sto → Prop} (i : ∀ S, P S → P' S) (h : sPut x y v S P) : sPut x y v S P' := by
  unfold sPut at h ⊢
  split at h
  · obtain ⟨xs, j, a, b, c⟩ := h; exact ⟨xs, j, a, b, i _ c⟩
  · exact h.elim
theorem sim_put {K : PySem.W.Frag} {as : List Addr} {H : Hp} {S : Sto} {x y z : SV} {o i v : V} {Q : Hp → Prop} (ok : Ok K as H S) (ro : Rl K as H o x) (ri : Rl K as H i y) (rv : Rl K as H v z) (h : sPut x y z S fun S' => ∀ H', Go as H as H' → Ok K as H' S' → Q H') : rSetL o i v H Q := by
  cases x with
  | loc k =>
    cases y with
    | int n =>
      obtain ⟨xs, j, h1, h2, h3⟩ := h
      obtain ⟨a, vs, rfl, ea, ha, ra⟩ := loc_rl ok ro h1
      rw [rl_int] at ri
      subst ri
      refine ⟨a, vs, n, j, rfl, rfl, ha, by rw [ra.length]; exact h2, h3 _ (Go.write (List.mem_of_getElem? ea)) (ok.write h1 ea (ra.set rv j)).1⟩
    | _ => exact False.elim h
  | _ => exact False.elim h
theorem put_via {K : PySem.W.Frag} {o i e : WE} (mo : Mono o) (mi : Mono i) (me : Mono e) : ∀ D σ H, liftS K (fun D ρ S => e ρ S fun v S1 => o ρ S1 fun x S2 => i ρ S2 fun y S3 => sPut x y v S3 fun S4 => D.nx ρ S4) D σ H → tAsg (lift K e) (gSub (lift K o) (lift K i) rSetL) D σ H := by
  rintro D σ H ⟨as, ρ, S, ok, en, h⟩
  refine ⟨as, ρ, S, ok, en, me _ _ _ _ (fun z S1 q as1 H1 v g1 ok1 rv => ?_) h⟩
  have en1 := en.mono g1.pre (g1.ku ok)
  refine ⟨as1, ρ, S1, ok1, en1, mo _ _ _ _ (fun x S2 q as2 H2 u g2 ok2 ru => ?_) q⟩
  have en2 := en1.mono g2.pre (g2.ku ok1)
  refine ⟨as2, ρ, S2, ok2, en2, mi _ _ _ _ (fun y S3 q as3 H3 t g3 ok3 rt => ?_) q⟩
  have en3 := en2.mono g3.pre (g3.ku ok2)
  refine sim_put ok3 (Rl.mono g3.pre (g3.ku ok2) x u ru) rt (Rl.mono (g2.trans g3).pre ((g2.trans g3).ku ok1) z v rv) (mono_put (fun S4 q H4 g4 ok4 => ?_) q)
  exact q as3 H4 σ (((g1.trans g2).trans g3).trans g4) ok4 (en3.mono g4.pre (g4.ku ok3))
theorem mono_putD {x y v : SV} {S : Sto} {Q Q' : Sto → Prop} (i : ∀ S', Q S' → Q' S') (h : sPutD x y v S Q) : sPutD x y v S Q' := let ⟨k, j, kvs, a, b, c, d, q⟩ := h; ⟨k, j, kvs, a, b, c, d, i _ q⟩
theorem dput_via {K : PySem.W.Frag} {o i e : WE} (mo : Mono o) (mi : Mono i) (me : Mono e) : ∀ D σ H, liftS K (fun D ρ S => e ρ S fun v S1 => o ρ S1 fun x S2 => i ρ S2 fun y S3 => sPutD x y v S3 fun S4 => D.nx ρ S4) D σ H → sDPutM (lift K o) (lift K i) (lift K e) D σ H := by
  rintro D σ H ⟨as, ρ, S, ok, en, h⟩
  refine ⟨as, ρ, S, ok, en, me _ _ _ _ (fun z S1 q as1 H1 v g1 ok1 rv => ?_) h⟩
  have en1 := en.mono g1.pre (g1.ku ok)
  refine ⟨as1, ρ, S1, ok1, en1, mo _ _ _ _ (fun x S2 q as2 H2 u g2 ok2 ru => ?_) q⟩
  have en2 := en1.mono g2.pre (g2.ku ok1)
  refine ⟨as2, ρ, S2, ok2, en2, mi _ _ _ _ (fun y S3 q as3 H3 t g3 ok3 rt => ?_) q⟩
  have en3 := en2.mono g3.pre (g3.ku ok2)
  have ru' := Rl.mono g3.pre (g3.ku ok2) x u ru
  have rv' := Rl.mono (g2.trans g3).pre ((g2.trans g3).ku ok1) z v rv
  obtain ⟨k, j, kvs, rfl, rfl, hk, hb, q⟩ := q
  obtain ⟨a, ea, rfl⟩ := rl_loc.mp ru'
  rw [rl_int] at rt
  subst rt
  rcases hk with hk | ⟨o', ks, hk⟩
  · obtain ⟨ks, h1, h2⟩ := ok3.obj k _ a hk ea
    obtain ⟨ok4, ku⟩ := ok3.writeO (x := .dct (dputL kvs j z)) (u := .dK (putK ks (Sum.inl j) v)) hk ea (fun ku => ⟨_, upd_same, RlD.mono (List.prefix_refl _) ku _ _ (h2.put rv' j)⟩)
    refine ⟨a, H3, _, rfl, .inl rfl, .inl ⟨ks, .inl j, h1, rfl, by rw [h2.length]; exact big_lt hb, rfl⟩, ?_⟩
    exact q as3 _ σ (((g1.trans g2).trans g3).trans (Go.write (List.mem_of_getElem? ea))) ok4 (en3.mono (List.prefix_refl _) ku)
  · obtain ⟨h1, h2⟩ := (show RlO K as3 H3 a (.dcf o' ks kvs) from ok3.obj k _ a hk ea)
    obtain ⟨ok4, ku⟩ := ok3.writeO (x := .dct (dputL kvs j z)) (u := .dK (putK ks (Sum.inl j) v)) hk ea (fun ku => ⟨_, upd_same, RlD.mono (List.prefix_refl _) ku _ _ (h2.put rv' j)⟩)
    have e : upd (upd H3 a (.dK ks)) a (.dK (putK ks (Sum.inl j) v)) = upd H3 a (.dK (putK ks (Sum.inl j) v)) := by
      funext b
      by_cases hb : b = a
      · rw [hb, upd_same, upd_same]
      · rw [upd_ne hb, upd_ne hb, upd_ne hb]
    refine ⟨a, upd H3 a (.dK ks), upd H3 a (.dK (putK ks (Sum.inl j) v)), rfl, .inr ⟨a, o', ks, h1, rfl⟩, .inl ⟨ks, .inl j, upd_same, rfl, by rw [h2.length]; exact big_lt hb, e.symm⟩, ?_⟩
    exact q as3 _ σ (((g1.trans g2).trans g3).trans (Go.write (List.mem_of_getElem? ea))) ok4 (en3.mono (List.prefix_refl _) ku)
end
theorem sw_tup {env : Env} {es : List Expr} {k : Nat} {p : Pos} {e : Expr} {l : Nat} : swapsWithSole [.Tuple es k p] e l env = pure false := by
  unfold swapsWithSole swapsWith
  cases e <;> rfl
theorem sw_sub {env : Env} {o i : Expr} {p : Pos} {e : Expr} {l : Nat} : swapsWithSole [.Subscript o i p] e l env = pure false := by
  unfold swapsWithSole swapsWith
  cases e <;> rfl
theorem st_tup {env : Env} {es : List Expr} {k : Nat} {p : Pos} {e : Expr} (h : notTup e = true) : swappedStores [.Tuple es k p] e env = pure none := by
  unfold swappedStores
  cases e <;> first | rfl | cases h
theorem st_sub {env : Env} {o i : Expr} {p : Pos} {e : Expr} : swappedStores [.Subscript o i p] e env = pure none := by
  unfold swappedStores
  cases e <;> rfl
theorem st_par {env : Env} {x y : Str} {px py pt pt2 : Pos} {k k2 : Nat} {a b : Expr} (hk : env.scope.kind = .function) (h : parB env.scope x y px py = true) (ha : notStar a = true) (hb : notStar b = true) (h1 : ([a, b].all (foldedForSure 8)) = false) (h2 : ([a, b].all (constantsAlone 8)) = false) :
    swappedStores [.Tuple [.Name x px, .Name y py] k pt] (.Tuple [a, b] k2 pt2) env = pure (some [x, y]) := by
  have hbk : env.blockKind = .function := by unfold Env.blockKind; rw [hk]; rfl
  unfold parB at h
  simp only [Bool.and_eq_true, beq_iff_eq, Bool.not_eq_true', beq_eq_false_iff_ne] at h
  obtain ⟨⟨⟨hx, hy⟩, hl⟩, hne⟩ := h
  have kx : env.kindOf x = some .local := hx
  have ky : env.kindOf y = some .local := hy
  have ed : ([x, y] : List Str).eraseDups.length = 2 := by
    have : (y == x) = false := by rw [beq_eq_false_iff_ne]; exact fun z => hne z.symm
    rw [List.eraseDups_cons, List.filter_cons, this]
    rfl
  unfold swappedStores
  simp only [List.length_cons, List.length_nil, hbk, h1, h2, List.head?_cons, Option.map_some, Option.getD_some, Expr.pos, List.filterMap_cons, List.filterMap_nil, kx, ky, hl]
  refine (if_neg (by decide)).trans ((if_neg (fun z => ?_)).trans ?_)
  · simp only [List.any_cons, List.any_nil, Bool.or_false, Bool.or_eq_true] at z
    rcases z with z | z
    · cases a <;> first | (cases z; done) | cases ha
    · cases b <;> first | (cases z; done) | cases hb
  · rw [show (some NameKind.local == some NameKind.local && py.line == py.line) = true by simp]
    simp only [if_true]
    refine (if_neg (by rw [ed]; simp)).trans ?_
    refine (if_neg (by simp)).trans ((if_neg (by simp)).trans rfl)
end Rf
set_option Elab.async false
set_option linter.all false
set_option maxRecDepth 100000
set_option maxHeartbeats 1000000
namespace Rf
open PySem L2
theorem mono_iff {t : WT} {a b : WS} (mt : MonoT t) (ma : MonoS a) (mb : MonoS b) : MonoS (fun D ρ S => t ρ S fun c S1 => if c = true then a D ρ S1 else b D ρ S1) := fun D D' ρ S l h => mt _ _ _ _ (fun c S1 q => ite_imp (fun q => ma.go q l) (fun q => mb.go q l) q) h
section
variable {T : List Str} {Δ : Nat → Sn} {X : Cx} {N : List Str} {sc : Scope}
theorem sole1 {env : Env} {e : Expr} (h : notStar e = true) : (assignEach [e] env).map (·.2) = [assign e env] := by cases e <;> first | rfl | cases h
theorem assign_sub {env : Env} {o i : Expr} {p : Pos} (h : notSlice i = true) : ∀ v, assign (.Subscript o i p) env v = (do
      let ov ← holding [v] (eval o env)
      let iv ← holding [v, ov] (eval i env)
      standAt p
      holding [v, ov, iv] (setItem ov iv v)
      release [v, ov, iv] []) := fun v => by cases i <;> first | rfl | cases h
theorem asg_sound (C : Cok T Δ X N.length N sc) (hk : sc.kind = .function) {t : Tg} {e : Ex} {rt re : Expr} {pos : Pos} (h1 : chkTg N.length N sc t rt = true) (h2 : chkE T N sc e re = true) (h3 : notStar rt = true) (h4 : asgB sc rt re = true) : PS X (.Assign [rt] re pos) (liftS X.K fun D ρ S => (wEx Δ e).1 ρ S fun x S1 => wTg t x ρ fun ρ' => D.nx ρ' S1) := by
  have ge := ex_sound e re C h2
  unfold asgB at h4
  cases hv : vNameP rt with
  | none =>
    rw [hv] at h4
    rw [Bool.and_eq_true] at h4
    obtain ⟨es, hes⟩ := Option.isSome_iff_exists.mp h4.1
    obtain ⟨j, p, rfl⟩ := vTup_eq hes
    exact ps_via' _ (ps_asg ge.pe (tg_sound C t _ h1) sw_tup (st_tup h4.2) (sole1 rfl)) (asg_via ge.m)
  | some xp =>
    rw [hv] at h4
    have e0 := vNameP_eq hv
    obtain ⟨x, px⟩ := xp
    subst e0
    cases t with
    | tup ts => rw [chkTg] at h1; cases h1
    | nm i =>
      rw [chkTg] at h1
      have h1 : (decide (i < N.length) && decide (N[i]? = some x) && loc sc x) = true := h1
      simp only [Bool.and_eq_true, decide_eq_true_eq] at h1
      obtain ⟨⟨hi, hx⟩, hl⟩ := h1
      unfold loc at hl
      simp only [Bool.or_eq_true, beq_iff_eq] at hl
      have hND : X.N.Nodup := by rw [C.hN]; exact C.nd
      have hNi : X.N[i]? = some x := by rw [C.hN]; exact hx
      have hloc : Loc X.env.scope x := by rw [C.hs]; exact hl
      have hf : X.fn x = true ∨ X.env.scope.names.lookup x = some .local := by
        rw [C.hs]
        rcases hl with hl | hl
        · exact .inr hl
        · exact .inl (C.fn i x hi hx hl)
      have hke : X.env.scope.kind = .function := by rw [C.hs]; exact hk
      cases hsw : swapB sc re x px with
      | false => exact ps_via' _ (ps_set hND hNi hloc ge.pe (by rw [swap_eq hke, C.hs, hsw]) hf) (asgN_via ge.m)
      | true =>
        have h4 : (!swapB sc re x px || isLC re) = true := h4
        rw [hsw, Bool.not_true, Bool.false_or] at h4
        unfold isLC at h4
        obtain ⟨v, hv', h4⟩ := any_some h4
        obtain ⟨gen, hgen⟩ := Option.isSome_iff_exists.mp h4
        obtain ⟨p', rfl⟩ := vComp_eq hv'
        rw [l1_eq hgen] at h2 ge hsw ⊢
        have hxl : X.env.scope.names.lookup x = some .local := by
          rw [C.hs]
          unfold swapB isComp at hsw
          simp only [Bool.and_eq_true, beq_iff_eq] at hsw
          exact hsw.1.1
        have hs1 : swapsWith (.ListComp v.1 [gen] v.2.2 p') (some (.Name x px)) pos.line X.env = pure true := by rw [swap_eq hke, C.hs, hsw]
        cases e with
        | comp own cn js g it t' e' =>
          obtain ⟨tg, ri, ifs, az⟩ := gen
          have h2 : (decide (az = 0) && compOk sc v.2.2 own cn N js && chkTg own.length (own ++ cn) (relS v.2.2 sc) g tg && chkI T N sc it tg ri && notSet ri && chkIf T (own ++ cn) (relS v.2.2 sc) t' ifs && chkE T (own ++ cn) (relS v.2.2 sc) e' v.1) = true := h2
          simp only [Bool.and_eq_true, decide_eq_true_eq] at h2
          obtain ⟨⟨⟨⟨⟨⟨k0, k1⟩, k2⟩, k3⟩, k4⟩, k5⟩, k6⟩ := h2
          subst k0
          have hI := itb_sound it _ _ C k3
          have hT := fun s2 H2 cs A fp => if_sound t' _ (C.comp k1 s2 H2 cs A fp) k5
          have hE := fun s2 H2 cs A fp => ex_sound e' _ (C.comp k1 s2 H2 cs A fp) k6
          have mt := (hT X.s₀ X.H₀ [] 0 []).2
          have me := (hE X.s₀ X.H₀ [] 0 []).m
          have b := ps_setComp (i := i) (g := liftG X.K g) (tt := liftT X.K (wEo Δ t').2) (te := lift X.K (wEx Δ e').1) own cn js hND hNi hxl hI.pi (fun s2 H2 cs A fp => tg_sound (C.comp k1 s2 H2 cs A fp) g _ k2) (fun s2 H2 cs A fp => (hT s2 H2 cs A fp).1) (fun s2 H2 cs A fp => (hE s2 H2 cs A fp).pe) C.calm (by rw [C.hs, C.hN]; exact k1) hs1 (notSet_folded k4)
          refine ps_via' _ b fun D σ H h => ?_
          have := asgN_via ge.m D σ H h
          exact comp_via hI.m mt me σ H _ this
        | no => exact fun _ _ _ _ _ _ h => let ⟨_, _, _, _, _, z⟩ := h; z.elim
        | _ => exact absurd h2 nofun
mutual
theorem st_sound (C : Cok T Δ X N.length N sc) (hp : PassesOwn (model X.prog X.w) X.A X.env X.xe) (hk : sc.kind = .function) : ∀ (s : Stm) (r : Stmt), chkS T N sc s r = true → GoodS X r (wSt Δ s)
  | .asg t e, r, h => by
    replace h := any_some h
    obtain ⟨v, hv, h⟩ := h
    replace h := any_some h
    obtain ⟨rt, hrt, h⟩ := h
    obtain ⟨pos, rfl⟩ := vAsg_eq hv
    simp only [Bool.and_eq_true] at h
    obtain ⟨⟨⟨h1, h2⟩, h3⟩, h4⟩ := h
    rw [l1_eq hrt]
    exact ⟨asg_sound C hk h1 h2 h3 h4, asg_mono (ex_sound e _ C h2).m⟩
  | .par i j a b, r, h => by
    replace h := any_some h
    obtain ⟨v, hv, h⟩ := h
    replace h := any_some h
    obtain ⟨rt, hrt, h⟩ := h
    replace h := any_some h
    obtain ⟨ts, hts, h⟩ := h
    replace h := any_some h
    obtain ⟨nn, hnn, h⟩ := h
    replace h := any_some h
    obtain ⟨vs, hvs, h⟩ := h
    replace h := any_some h
    obtain ⟨ab, hab, h⟩ := h
    replace h := any_some h
    obtain ⟨x, hx', h⟩ := h
    replace h := any_some h
    obtain ⟨y, hy', h⟩ := h
    obtain ⟨pos, rfl⟩ := vAsg_eq hv
    simp only [Bool.and_eq_true, decide_eq_true_eq, Bool.not_eq_true'] at h
    obtain ⟨⟨⟨⟨⟨⟨⟨⟨⟨hx, hy⟩, hij⟩, hpar⟩, h1⟩, h2⟩, h3⟩, h4⟩, h5⟩, h6⟩ := h
    obtain ⟨j1, p1, e1⟩ := vTup_eq hts
    obtain ⟨j2, p2, e2⟩ := vTup_eq hvs
    rw [l1_eq hrt, e1, l2_eq hnn, e2, l2_eq hab, vNameP_eq hx', vNameP_eq hy']
    have ga := ex_sound a _ C h1
    have gb := ex_sound b _ C h2
    have hp2 := hpar
    unfold parB at hp2
    simp only [Bool.and_eq_true, beq_iff_eq] at hp2
    have hke : X.env.scope.kind = .function := by rw [C.hs]; exact hk
    refine ⟨ps_via' _ (ps_par (i := i) (j := j) C.calm (by rw [C.hN]; exact C.nd) (by rw [C.hN]; exact hx) (by rw [C.hN]; exact hy) hij (by rw [C.hs]; exact hp2.1.1.1) (by rw [C.hs]; exact hp2.1.1.2) (pa_cons ga.pe (pa_cons gb.pe pa_nil (star_of h4)) (star_of h3)) (st_par hke (by rw [C.hs]; exact hpar) h3 h4 h5 h6) sw_tup) (par_via ga.m gb.m), ?_⟩
    exact fun D D' ρ S l h => ga.m _ _ _ _ (fun x S1 q => gb.m _ _ _ _ (fun y S2 q => l.nx _ _ q) q) h
  | .put o i e, r, h => by
    replace h := any_some h
    obtain ⟨v, hv, h⟩ := h
    replace h := any_some h
    obtain ⟨rt, hrt, h⟩ := h
    replace h := any_some h
    obtain ⟨oi, hoi, h⟩ := h
    obtain ⟨pos, rfl⟩ := vAsg_eq hv
    obtain ⟨p2, e2⟩ := vSub_eq hoi
    simp only [Bool.and_eq_true] at h
    rw [l1_eq hrt, e2]
    have go := ex_sound o _ C h.1.1.1
    have gi := ex_sound i _ C h.1.1.2
    have ge := ex_sound e _ C h.1.2
    refine ⟨ps_via' _ (ps_asg ge.pe (pg_sub go.pe gi.pe set_list (assign_sub h.2)) sw_sub st_sub (sole1 rfl)) (put_via go.m gi.m ge.m), ?_⟩
    exact fun D D' ρ S l h => ge.m _ _ _ _ (fun v S1 q => go.m _ _ _ _ (fun x S2 q => gi.m _ _ _ _ (fun y S3 q => mono_put (fun S4 q => l.nx _ _ q) q) q) q) h
  | .dput o i e, r, h => by
    replace h := any_some h
    obtain ⟨v, hv, h⟩ := h
    replace h := any_some h
    obtain ⟨rt, hrt, h⟩ := h
    replace h := any_some h
    obtain ⟨oi, hoi, h⟩ := h
    obtain ⟨pos, rfl⟩ := vAsg_eq hv
    obtain ⟨p2, e2⟩ := vSub_eq hoi
    simp only [Bool.and_eq_true] at h
    rw [l1_eq hrt, e2]
    have go := ex_sound o _ C h.1.1.1
    have gi := ex_sound i _ C h.1.1.2
    have ge := ex_sound e _ C h.1.2
    have := C.un
    refine ⟨ps_via' _ (ps_dputM (by omega) go.pe gi.pe ge.pe (by unfold swapsWith; cases v.2 <;> rfl)) (dput_via go.m gi.m ge.m), ?_⟩
    exact fun D D' ρ S l h => ge.m _ _ _ _ (fun v S1 q => go.m _ _ _ _ (fun x S2 q => gi.m _ _ _ _ (fun y S3 q => mono_putD (fun S4 q => l.nx _ _ q) q) q) q) h
  | .expr e, r, h => by
    replace h := any_some h
    obtain ⟨re, hre, h⟩ := h
    obtain ⟨pos, rfl⟩ := vExp_eq hre
    simp only [Bool.and_eq_true] at h
    have ge := ex_sound e _ C h.1
    have hs : swapsWith re none pos.line X.env = pure false := by
      have := h.2
      unfold swapsWith
      cases re <;> first | rfl | (unfold isComp at this; cases this)
    refine ⟨ps_via' _ (ps_expr ge.pe hs) ?_, fun D D' ρ S l h => ge.m _ _ _ _ (fun x S1 q => l.nx _ _ q) h⟩
    rintro D σ H ⟨as, ρ, S, ok, en, h⟩
    exact ⟨as, ρ, S, ok, en, ge.m _ _ _ _ (fun x S1 q as1 H1 v g1 ok1 rv => q as1 H1 σ g1 ok1 (en.mono g1.pre (g1.ku ok))) h⟩
  | .iff t a b, r, h => by
    replace h := any_some h
    obtain ⟨v, hv, h⟩ := h
    obtain ⟨pos, rfl⟩ := vIfS_eq hv
    simp only [Bool.and_eq_true] at h
    have gt := ex_sound t _ C h.1.1
    have ga := ss_sound C hp hk a _ h.1.2
    have gb := ss_sound C hp hk b _ h.2
    exact ⟨ps_via' _ (ps_if gt.pt ga.ps gb.ps) (if_via gt.mt ga.m gb.m), mono_iff gt.mt ga.m gb.m⟩
  | .loop g it b, r, h => by
    replace h := any_some h
    obtain ⟨v, hv, h⟩ := h
    obtain ⟨pos, rfl⟩ := vFor_eq hv
    simp only [Bool.and_eq_true, List.isEmpty_iff] at h
    obtain ⟨⟨⟨⟨h1, h2⟩, h3⟩, h4⟩, h5⟩ := h
    rw [h5]
    have gi := itb_sound it _ _ C h2
    have gb := ss_sound C hp hk b _ h4
    refine ⟨ps_via' _ (ps_for hp C.calm gi.pi (tg_sound C g _ h1) gb.ps (notSet_folded h3)) (for_via gi.m gb.m), ?_⟩
    exact fun D D' ρ S l h => gi.m _ _ _ _ (fun keep xs S1 q => mono_loop gb.m xs l _ _ q) h
  | .whl t b, r, h => by
    replace h := any_some h
    obtain ⟨v, hv, h⟩ := h
    obtain ⟨pos, rfl⟩ := vWhl_eq hv
    simp only [Bool.and_eq_true, List.isEmpty_iff] at h
    rw [h.2]
    have gt := ex_sound t _ C h.1.1
    have gb := ss_sound C hp hk b _ h.1.2
    exact ⟨ps_via' _ (ps_while hp gt.pt gb.ps) (whl_via gt.mt gb.m), mono_whl gt.mt gb.m⟩
  | .ret e, r, h => by
    replace h := any_some h
    obtain ⟨o, ho, h⟩ := h
    replace h := any_some h
    obtain ⟨re, hre, h⟩ := h
    obtain ⟨pos, rfl⟩ := vRet_eq ho
    rw [hre]
    have ge := ex_sound e _ C h
    exact ⟨ps_via' _ (ps_ret ge.pe) fun D σ H ⟨as, ρ, S, ok, en, h⟩ => ⟨as, ρ, S, ok, en, h⟩, fun D D' ρ S l h => ge.m _ _ _ _ l.rt h⟩
  | .retN, r, h => Bool.noConfusion (show false = true from h)
  | .brk, r, h => Bool.noConfusion (show false = true from h)
  | .cnt, r, h => Bool.noConfusion (show false = true from h)
  | .pass, r, h => Bool.noConfusion (show false = true from h)
  | .no, r, h => ⟨fun _ _ _ _ _ _ h => let ⟨_, _, _, _, _, z⟩ := h; z.elim, fun _ _ _ _ _ h => h⟩
theorem ss_sound (C : Cok T Δ X N.length N sc) (hp : PassesOwn (model X.prog X.w) X.A X.env X.xe) (hk : sc.kind = .function) : ∀ (s : List Stm) (r : List Stmt), chkSs T N sc s r = true → GoodSs X r (wSs Δ s)
  | [], r, h => by
    rw [chkSs, List.isEmpty_iff] at h
    subst h
    exact snil_sound
  | s :: ss, r, h => by
    rw [chkSs] at h
    replace h := any_some h
    obtain ⟨x, hx, h⟩ := h
    rw [Bool.and_eq_true] at h
    rw [head_eq hx]
    have := scons_sound (st_sound C hp hk s x h.1) (ss_sound C hp hk ss _ h.2)
    rw [wSs]; exact this
end
end
end Rf
set_option Elab.async false
set_option linter.all false
set_option maxRecDepth 100000
set_option maxHeartbeats 1000000
namespace Rf
open PySem L2
mutual
theorem ex_mono {Δ : Nat → Sn} (hΔ : ∀ f, MonoN (Δ f)) : ∀ (e : Ex), Mono (wEx Δ e).1 ∧ MonoT (wEx Δ e).2
  | .var i => ⟨.var, .tru .var⟩
  | .c x => ⟨.c, .tru .c⟩
  | .op o a b => have m : Mono _ := .two (s := sOp o) mono_op (ex_mono hΔ a).1 (ex_mono hΔ b).1; ⟨m, .tru m⟩
  | .neg a => have m : Mono _ := .one mono_neg (ex_mono hΔ a).1; ⟨m, .tru m⟩
  | .cmp o a b => have m : Mono _ := .two (s := sCmp o) mono_cmp (ex_mono hΔ a).1 (ex_mono hΔ b).1; ⟨m, .bl m⟩
  | .chn o p a b c => have m := mono_chn (o := o) (p := p) (ex_mono hΔ a).1 (ex_mono hΔ b).1 (ex_mono hΔ c).1; ⟨m, .bl m⟩
  | .and a b => ⟨.and (ex_mono hΔ a).1 (ex_mono hΔ b).1, .and (ex_mono hΔ a).2 (ex_mono hΔ b).2⟩
  | .or a b => ⟨.or (ex_mono hΔ a).1 (ex_mono hΔ b).1, .or (ex_mono hΔ a).2 (ex_mono hΔ b).2⟩
  | .not a => ⟨.not (ex_mono hΔ a).1, .not (ex_mono hΔ a).2⟩
  | .ife t a b => ⟨.ifE (ex_mono hΔ t).2 (ex_mono hΔ a).1 (ex_mono hΔ b).1, fun _ _ _ _ _ h => h⟩
  | .tup es => have m : Mono _ := .n .tup (exs_mono hΔ es); ⟨m, .tru m⟩
  | .lst es => have m : Mono _ := .n .lst (exs_mono hΔ es); ⟨m, .tru m⟩
  | .ix a b => have m : Mono _ := .two .ix (ex_mono hΔ a).1 (ex_mono hΔ b).1; ⟨m, .tru m⟩
  | .slc a lo hi => have m : Mono _ := (fun ρ S P P' i h => (ex_mono hΔ a).1 _ _ _ _ (fun x S1 h => (eo_mono hΔ lo).1 _ _ _ _ (fun l S2 h => (eo_mono hΔ hi).1 _ _ _ _ (fun k S3 h => mono_slc i h) h) h) h : Mono (wSlc _ _ _)); ⟨m, .tru m⟩
  | .call f es => have m : Mono _ := .n (hΔ f) (exs_mono hΔ es); ⟨m, .tru m⟩
  | .bi b es => have m : Mono _ := .n (s := sBi b) .bi (exs_mono hΔ es); ⟨m, .tru m⟩
  | .mt m' a es => have m : Mono _ := Mono.mt (m := m') (ex_mono hΔ a).1 (exs_mono hΔ es); ⟨m, .tru m⟩
  | .comp own cn js g it t e => have m : Mono _ := Mono.comp (k := own.length) (js := js) (g := g) (itb_mono hΔ it) (eo_mono hΔ t).2 (ex_mono hΔ e).1; ⟨m, .tru m⟩
  | .tyc t => ⟨.c, .tru .c⟩
  | .lrng1 a => have m := mono_lrng1 (ex_mono hΔ a).1; ⟨m, .tru m⟩
  | .lrng2 a b => have m := mono_lrng2 (ex_mono hΔ a).1 (ex_mono hΔ b).1; ⟨m, .tru m⟩
  | .rev a => have m : Mono _ := .one mono_rev (ex_mono hΔ a).1; ⟨m, .tru m⟩
  | .set0 => ⟨mono_set0, .tru mono_set0⟩
  | .sadd a e => have m := mono_sadd (ex_mono hΔ a).1 (ex_mono hΔ e).1; ⟨m, .tru m⟩
  | .lenset a => have m := mono_lenset (ex_mono hΔ a).1; ⟨m, .tru m⟩
  | .srtset a => have m := mono_srtset (ex_mono hΔ a).1; ⟨m, .tru m⟩
  | .setl a => have m := mono_setl (ex_mono hΔ a).1; ⟨m, .tru m⟩
  | .dctl a => have m := mono_dctl (ex_mono hΔ a).1; ⟨m, .tru m⟩
  | .dnew => ⟨mono_dnew, .tru mono_dnew⟩
  | .dget a b => have m : Mono _ := .two mono_dget (ex_mono hΔ a).1 (ex_mono hΔ b).1; ⟨m, .tru m⟩
  | .din n a b => have m : Mono _ := .two (s := sDin n) mono_din (ex_mono hΔ a).1 (ex_mono hΔ b).1; ⟨m, .bl m⟩
  | .no => ⟨fun _ _ _ _ _ h => h, fun _ _ _ _ _ h => h⟩
theorem exs_mono {Δ : Nat → Sn} (hΔ : ∀ f, MonoN (Δ f)) : ∀ (es : Exs), MonoA (wExs Δ es)
  | .nil => .nil
  | .cons e es => .cons (ex_mono hΔ e).1 (exs_mono hΔ es)
theorem eo_mono {Δ : Nat → Sn} (hΔ : ∀ f, MonoN (Δ f)) : ∀ (o : Eo), MonoO (wEo Δ o).1 ∧ MonoT (wEo Δ o).2
  | .no => ⟨.no, fun _ _ _ _ i q => i _ _ q⟩
  | .yes e => ⟨.yes (ex_mono hΔ e).1, (ex_mono hΔ e).2⟩
theorem itb_mono {Δ : Nat → Sn} (hΔ : ∀ f, MonoN (Δ f)) : ∀ (it : Itb), MonoI (wItb Δ it)
  | .seq e => fun ρ S P P' i h => (ex_mono hΔ e).1 _ _ _ _ (fun x S1 ⟨xs, e, q⟩ => ⟨xs, e, i _ _ _ q⟩) h
  | .rng1 a => fun ρ S P P' i h => (ex_mono hΔ a).1 _ _ _ _ (fun x S1 ⟨j, e, z, q⟩ => ⟨j, e, z, i _ _ _ q⟩) h
  | .rng2 a b => fun ρ S P P' i h => (ex_mono hΔ a).1 _ _ _ _ (fun x S1 h => (ex_mono hΔ b).1 _ _ _ _ (fun y S2 ⟨l, j, e, e2, z, q⟩ => ⟨l, j, e, e2, z, i _ _ _ q⟩) h) h
  | .enum e => fun ρ S P P' i h => (ex_mono hΔ e).1 _ _ _ _ (fun x S1 ⟨xs, e, q⟩ => ⟨xs, e, i _ _ _ q⟩) h
  | .dk e => fun ρ S P P' i h => (ex_mono hΔ e).1 _ _ _ _ (fun x S1 ⟨k, kvs, e, hk, q⟩ => ⟨k, kvs, e, hk, fun o ks => i _ _ _ (q o ks)⟩) h
  | .rngT a b => fun ρ S P P' i h => (ex_mono hΔ a).1 _ _ _ _ (fun x S1 h => (ex_mono hΔ b).1 _ _ _ _ (fun y S2 ⟨l, j, e, e2, z, q⟩ => ⟨l, j, e, e2, z, i _ _ _ q⟩) h) h
  | .zip i j => fun ρ S P P' i h => let ⟨x, y, xs, ys, a, b, c, d, e, f, q⟩ := h; ⟨x, y, xs, ys, a, b, c, d, e, f, i _ _ _ q⟩
end
mutual
theorem st_mono {Δ : Nat → Sn} (hΔ : ∀ f, MonoN (Δ f)) : ∀ (s : Stm), MonoS (wSt Δ s)
  | .asg t e => by exact asg_mono (ex_mono hΔ e).1
  | .par i j a b => by exact fun D D' ρ S l h => (ex_mono hΔ a).1 _ _ _ _ (fun x S1 q => (ex_mono hΔ b).1 _ _ _ _ (fun y S2 q => l.nx _ _ q) q) h
  | .put o i e => by exact fun D D' ρ S l h => (ex_mono hΔ e).1 _ _ _ _ (fun v S1 q => (ex_mono hΔ o).1 _ _ _ _ (fun x S2 q => (ex_mono hΔ i).1 _ _ _ _ (fun y S3 q => mono_put (fun S4 q => l.nx _ _ q) q) q) q) h
  | .dput o i e => by exact fun D D' ρ S l h => (ex_mono hΔ e).1 _ _ _ _ (fun v S1 q => (ex_mono hΔ o).1 _ _ _ _ (fun x S2 q => (ex_mono hΔ i).1 _ _ _ _ (fun y S3 q => mono_putD (fun S4 q => l.nx _ _ q) q) q) q) h
  | .expr e => by exact fun D D' ρ S l h => (ex_mono hΔ e).1 _ _ _ _ (fun x S1 q => l.nx _ _ q) h
  | .iff t a b => by exact mono_iff (ex_mono hΔ t).2 (ss_mono hΔ a) (ss_mono hΔ b)
  | .loop g it b => by exact fun D D' ρ S l h => itb_mono hΔ it _ _ _ _ (fun keep xs S1 q => mono_loop (ss_mono hΔ b) xs l _ _ q) h
  | .whl t b => by exact mono_whl (ex_mono hΔ t).2 (ss_mono hΔ b)
  | .ret e => by exact fun D D' ρ S l h => (ex_mono hΔ e).1 _ _ _ _ l.rt h
  | .retN => by exact fun D D' ρ S l h => l.rt _ _ h
  | .brk => by exact fun D D' ρ S l h => l.bk _ _ h
  | .cnt => by exact fun D D' ρ S l h => l.ct _ _ h
  | .pass => by exact fun D D' ρ S l h => l.nx _ _ h
  | .no => by exact fun D D' ρ S l h => h
theorem ss_mono {Δ : Nat → Sn} (hΔ : ∀ f, MonoN (Δ f)) : ∀ (s : List Stm), MonoS (wSs Δ s)
  | [] => by exact fun D D' ρ S l h => l.nx _ _ h
  | s :: ss => by exact fun D D' ρ S l h => (st_mono hΔ s).go (D := { D with nx := wSs Δ ss D }) h ⟨fun ρ' S' q => (ss_mono hΔ ss) _ _ _ _ l q, l.rt, l.bk, l.ct⟩
end
theorem ofL1 {P : List Value → Prop} (h : ∀ a, P [a]) : ∀ us : List Value, us.length = 1 → P us
  | [a], _ => h a
theorem ofL2 {P : List Value → Prop} (h : ∀ a b, P [a, b]) : ∀ us : List Value, us.length = 2 → P us
  | [a, b], _ => h a b
theorem ofL3 {P : List Value → Prop} (h : ∀ a b c, P [a, b, c]) : ∀ us : List Value, us.length = 3 → P us
  | [a, b, c], _ => h a b c
structure Df where
  name : Str
  st : Stmt
  ps : List Str
  N : List Str
  body : List Stm
noncomputable def endsOf (Q : QE) : EndsS := ⟨fun _ S' => Q .non S', Q, fun _ _ => False, fun _ _ => False⟩
noncomputable def envOf (n : Nat) (xs : List SV) : EnvS := xs.map some ++ List.replicate (n - xs.length) none
noncomputable def wDef (Δ : Nat → Sn) (D : Df) : Sn := fun xs S Q => xs.length = D.ps.length ∧ wSs Δ D.body (endsOf Q) (envOf D.N.length xs) S
noncomputable def W (prog : List Df) : Nat → Nat → Sn
  | 0, _ => fun _ _ _ => False
  | d + 1, f => match prog[f]? with
    | some D => wDef (W prog d) D
    | none => fun _ _ _ => False
theorem def_mono {Δ : Nat → Sn} (hΔ : ∀ f, MonoN (Δ f)) (D : Df) : MonoN (wDef Δ D) := fun xs S P P' i h => ⟨h.1, (ss_mono hΔ D.body).go h.2 ⟨fun _ _ q => i _ _ q, i, fun _ _ q => q, fun _ _ q => q⟩⟩
theorem W_mono {prog : List Df} : ∀ (d f : Nat), MonoN (W prog d f)
  | 0, f => fun _ _ _ _ _ h => h
  | d + 1, f => by
    unfold W
    split
    · exact def_mono (W_mono d) _
    · exact fun _ _ _ _ _ h => h
noncomputable def fnB (N ps : List Str) (sc : Scope) : Bool := decide (sc.kind = .function) && !sc.isCoroutine && !sc.isGenerator && decide N.Nodup && decide (N.take ps.length = ps) && ps.all (loc sc) && sc.names.all (fun y => !decide (y.2 = .free))
theorem fnB_ok {N ps : List Str} {sc : Scope} (h : fnB N ps sc = true) : FnScope N ps sc := by
  unfold fnB at h
  simp only [Bool.and_eq_true, decide_eq_true_eq, Bool.not_eq_true', List.all_eq_true, decide_eq_false_iff_not] at h
  obtain ⟨⟨⟨⟨⟨⟨h1, h2⟩, h3⟩, h4⟩, h5⟩, h6⟩, h7⟩ := h
  refine ⟨h1, h2, h3, h4, h5, fun x hx => ?_, h7⟩
  have := h6 x hx
  unfold loc at this
  simpa using this
noncomputable def chkD (T : List Str) (D : Df) : Bool := fnB D.N D.ps (defScope D.st) && chkSs T D.N (defScope D.st) D.body (defBody D.st)
structure Bl (mg : Str → Option Value) : Prop where
  bl : ∀ b : BI, mg b.name = none
  rng : mg "range" = none
  enm : mg "enumerate" = none
  zip : mg "zip" = none
  st0 : mg "set" = none
  dc0 : mg "dict" = none
  ty : ∀ t : TyN, t ≠ .none → mg (Str.ofString t.nm) = none
section
variable {P : Program} {w : World} {K : PySem.W.Frag} {mg : Str → Option Value} {base : Heap}
theorem env_start {as : List Addr} {H : Hp} {N : List Str} {vs : List V} {xs : List SV} (r : RlAll K as H vs xs) : EnvOk K as H (L2.start N vs) (envOf N.length xs) := by
  unfold L2.start envOf
  rw [← r.length]
  refine ⟨by simp [r.length], fun i x e => ?_⟩
  by_cases hi : i < vs.length
  · rw [List.getElem?_append_left (by rw [List.length_map, ← r.length]; exact hi), List.getElem?_map] at e
    rw [List.getElem?_append_left (by simpa using hi), List.getElem?_map]
    cases hx : xs[i]? with
    | none => rw [hx] at e; cases e
    | some y =>
      rw [hx] at e
      have : y = x := by simpa using e
      subst this
      obtain ⟨v, hv, rv⟩ := r.get hx
      exact ⟨v, by rw [hv]; rfl, rv⟩
  · rw [List.getElem?_append_right (by rw [List.length_map, ← r.length]; omega), List.getElem?_replicate] at e
    split at e <;> cases e
theorem def_ok {T : List Str} {Δ : Nat → Sn} {D : Df} {f : Addr} {fd : FuncData} {k : Nat} (F : Fun K D.name D.name D.st f fd) (hc : chkD T D = true) (B : Bl mg) (hcall : ∀ f x, T[f]? = some x → ∃ ps, Cal P w K mg base k x ps (spS K (Δ f))) (hΔ : ∀ f, MonoN (Δ f)) : FnOk P w K mg base CX0 (k + 1) f fd D.ps (spS K (wDef Δ D)) := by
  unfold chkD at hc
  rw [Bool.and_eq_true] at hc
  have S := fnB_ok hc.1
  refine F.ok S (fun vs H Q E h => ?_) (fun cdv A outer s H vs Q E hr h => ?_)
  · obtain ⟨as, S, xs, ok, r, hl, _⟩ := h
    rw [r.length]; exact hl
  · have C : Cok T Δ (cxOf CX0 P w K mg base D.N D.name (defScope D.st) f cdv A outer s H E).nox D.N.length D.N (defScope D.st) := {
      hN := rfl, hs := rfl, nd := S.nd, calm := rfl, fn := fun _ _ _ _ _ => rfl
      un := by have := hr.un; show (A.deeper _).units + 100 < cLine; omega
      bl := B.bl, rng := B.rng, enm := B.enm, zip := B.zip, st0 := B.st0, dc0 := B.dc0, ty := B.ty, gd := hr.gd
      call := fun g x hx => let ⟨ps, c⟩ := hcall g x hx; ⟨k, ps, c, hr⟩
      mono := hΔ }
    refine ⟨_, (ss_sound C PassesOwn.never S.kind D.body _ hc.2).ps, ?_⟩
    obtain ⟨as, S, xs, ok, r, hl, h⟩ := h
    refine ⟨as, _, S, ok, env_start r, (ss_mono hΔ D.body).go h ⟨fun ρ' S' q as' H' σ' g ok' en' => q as' H' _ g ok' (rl_non.mpr rfl), fun x S' q => q, fun _ _ q => q.elim, fun _ _ q => q.elim⟩⟩
structure PIn (K : PySem.W.Frag) (mg : Str → Option Value) (D : Df) : Prop where
  ex : ∃ f fd, Fun K D.name D.name D.st f fd ∧ mg D.name = some (.ref f) ∧ PySem.W.keepIn K (.ref f) = true ∧ Binds K fd D.ps []
theorem prog_ok {prog : List Df} (hc : prog.all (chkD (prog.map (·.name))) = true) (B : Bl mg) (hin : ∀ D ∈ prog, PIn K mg D) : ∀ (d f : Nat) (D : Df), prog[f]? = some D → Cal P w K mg base d D.name D.ps (spS K (W prog d f))
  | 0, f, D, hf => by
    obtain ⟨fa, fd, F, hm, hk, hb⟩ := (hin D (List.mem_of_getElem? hf)).ex
    refine ⟨fa, fd, ⟨fun vs H Q E h => ?_, fun A outer s H args us vs Q E hr he hbn hv h => ?_⟩, hm, hk, hb⟩
    · obtain ⟨_, _, _, _, _, z⟩ := h; exact z.elim
    · obtain ⟨_, _, _, _, _, z⟩ := h; exact z.elim
  | d + 1, f, D, hf => by
    obtain ⟨fa, fd, F, hm, hk, hb⟩ := (hin D (List.mem_of_getElem? hf)).ex
    have h1 := List.all_eq_true.mp hc D (List.mem_of_getElem? hf)
    have := def_ok (Δ := W prog d) (P := P) (w := w) (base := base) (k := d) F h1 B (fun g x hx => by
      rw [List.getElem?_map] at hx
      cases hg : prog[g]? with
      | none => rw [hg] at hx; cases hx
      | some D' =>
        rw [hg] at hx
        have : D'.name = x := by simpa using hx
        subst this
        exact ⟨D'.ps, prog_ok hc B hin d g D' hg⟩) (W_mono d)
    have e : W prog (d + 1) f = wDef (W prog d) D := by rw [W, hf]
    rw [e]
    exact ⟨fa, fd, this, hm, hk, hb⟩
theorem law_sp {prog : List Df} {d f : Nat} {H : Hp} {a : Addr} {ns : List Int} (main : W prog d f [.ro (ns.map SV.int)] [] fun x _ => x = .bl true) (hO : Only H) (hS : SqL K H a (ns.map V.int)) : spS K (W prog d f) [.ref a] H (fun v _ => v = .bl true) fun _ _ _ => False := by
  have hz : FzL K H a (ns.map V.int) := by
    rcases hS with (h | ⟨o, h⟩) | h
    · rcases hO a with z | ⟨o, xs, z⟩ <;> rw [h] at z <;> cases z
    · exact .inl ⟨o, h⟩
    · exact .inr h
  refine ⟨[], [], _, ⟨rfl, List.nodup_nil, fun k o a e => by simp at e⟩, .cons (rl_ro.mpr ⟨a, _, rfl, hz, RlAll.ints⟩) .nil, W_mono d f _ _ _ _ (fun x S' e as' H' v g ok r => ?_) main⟩
  subst e
  exact rl_bl.mp r
end
end Rf
set_option Elab.async false
set_option linter.all false
set_option maxRecDepth 100000
namespace Hue
open PySem L2 Rf
noncomputable def top (i : Nat) : Stmt := PySem.Challenge.pw_huedties_k68_cuts.main.body.getD i (.Pass ⟨0, 0, 0, 0⟩)
noncomputable def b0 : List Stm := [(.ret (.and (.bi .isi (.cons (.var 0) (.cons (.tyc .int) .nil))) (.not (.bi .isi (.cons (.var 0) (.cons (.tyc .bool) .nil))))))]
noncomputable def d0 : Df := ⟨"is_number", top 5, ["thing"], ["thing"], b0⟩
noncomputable def b1 : List Stm := [(.ret (.and (.call 0 (.cons (.var 1) .nil)) (.chn .LtE .Lt (.c (.int 0)) (.var 1) (.ix (.var 0) (.c (.int 0))))))]
noncomputable def d1 : Df := ⟨"has_place", top 7, ["web", "place"], ["web", "place"], b1⟩
noncomputable def b2 : List Stm := [(.ret (.and (.call 0 (.cons (.var 1) .nil)) (.chn .LtE .Lt (.c (.int 0)) (.var 1) (.bi .len (.cons (.ix (.var 0) (.c (.int 1))) .nil)))))]
noncomputable def d2 : Df := ⟨"has_tie", top 8, ["web", "tie"], ["web", "tie"], b2⟩
noncomputable def b3 : List Stm := [(.iff (.not (.call 1 (.cons (.var 0) (.cons (.var 1) .nil)))) [.no] [])]
noncomputable def d3 : Df := ⟨"check_place", top 9, ["web", "place"], ["web", "place"], b3⟩
noncomputable def b4 : List Stm := [(.iff (.not (.call 2 (.cons (.var 0) (.cons (.var 1) .nil)))) [.no] [])]
noncomputable def d4 : Df := ⟨"check_tie", top 10, ["web", "tie"], ["web", "tie"], b4⟩
noncomputable def b5 : List Stm := [(.expr (.call 3 (.cons (.var 0) (.cons (.var 1) .nil)))), (.ret (.comp ["tie", "ends"] ["place"] [1] (.tup (.cons (.nm 0) (.cons (.nm 1) .nil))) (.enum (.ix (.var 0) (.c (.int 1)))) (.yes (.cmp .In (.var 2) (.var 1))) (.var 0)))]
noncomputable def d5 : Df := ⟨"ties_at", top 11, ["web", "place"], ["web", "place"], b5⟩
noncomputable def b6 : List Stm := [(.asg (.nm 1) (.lrng1 (.ix (.var 0) (.c (.int 0))))), (.loop (.tup (.cons (.nm 2) (.cons (.nm 3) .nil))) (.seq (.ix (.var 0) (.c (.int 1)))) [(.asg (.nm 4) (.bi .min (.cons (.ix (.var 1) (.var 2)) (.cons (.ix (.var 1) (.var 3)) .nil)))), (.asg (.nm 5) (.bi .max (.cons (.ix (.var 1) (.var 2)) (.cons (.ix (.var 1) (.var 3)) .nil)))), (.asg (.nm 1) (.comp ["first"] ["high", "low"] [5, 4] (.nm 0) (.seq (.var 1)) .no (.ife (.cmp .Eq (.var 0) (.var 1)) (.var 2) (.var 0))))]), (.ret (.comp ["first"] ["least", "web"] [1, 0] (.nm 0) (.rng1 (.ix (.var 0) (.c (.int 0)))) (.yes (.cmp .Eq (.ix (.var 1) (.var 0)) (.var 0))) (.comp ["place"] ["least", "first"] [1, 0] (.nm 0) (.rng1 (.ix (.var 2) (.c (.int 0)))) (.yes (.cmp .Eq (.ix (.var 1) (.var 0)) (.var 2))) (.var 0))))]
noncomputable def d6 : Df := ⟨"parts", top 12, ["web"], ["web", "least", "one", "other", "low", "high"], b6⟩
noncomputable def b7 : List Stm := [(.loop (.nm 2) (.seq (.var 1)) [(.expr (.call 4 (.cons (.var 0) (.cons (.var 2) .nil))))]), (.ret (.tup (.cons (.ix (.var 0) (.c (.int 0))) (.cons (.bi .tuple (.cons (.comp ["tie"] ["web"] [0] (.nm 0) (.seq (.var 1)) .no (.ix (.ix (.var 1) (.c (.int 1))) (.var 0))) .nil)) .nil))))]
noncomputable def d7 : Df := ⟨"only", top 13, ["web", "ties"], ["web", "ties", "tie"], b7⟩
noncomputable def b8 : List Stm := [(.asg (.nm 2) (.call 5 (.cons (.var 0) (.cons (.var 1) .nil)))), (.ret (.call 7 (.cons (.var 0) (.cons (.comp ["tie"] ["around"] [2] (.nm 0) (.rng1 (.bi .len (.cons (.ix (.var 0) (.c (.int 1))) .nil))) (.yes (.cmp .NotIn (.var 0) (.var 1))) (.var 0)) .nil))))]
noncomputable def d8 : Df := ⟨"without", top 15, ["web", "place"], ["web", "place", "around"], b8⟩
noncomputable def b9 : List Stm := [(.asg (.nm 1) (.bi .len (.cons (.call 6 (.cons (.var 0) .nil)) .nil))), (.ret (.comp ["place"] ["web", "count"] [0, 1] (.nm 0) (.rng1 (.ix (.var 0) (.c (.int 0)))) (.yes (.cmp .Gt (.bi .len (.cons (.call 6 (.cons (.call 8 (.cons (.var 1) (.cons (.var 0) .nil))) .nil)) .nil)) (.op .Add (.var 2) (.c (.int 1))))) (.var 0)))]
noncomputable def d9 : Df := ⟨"cuts", top 16, ["web"], ["web", "count"], b9⟩
noncomputable def b10 : List Stm := [(.asg (.nm 2) (.c (.int 0))), (.iff (.cmp .Lt (.var 1) (.bi .len (.cons (.var 0) .nil))) [(.asg (.nm 2) (.ix (.var 0) (.var 1)))] []), (.asg (.nm 3) (.op .Mult (.bi .abs (.cons (.var 2) .nil)) (.bi .int (.cons (.cmp .GtE (.bi .abs (.cons (.var 2) .nil)) (.op .Pow (.c (.int 10)) (.c (.int 18)))) .nil)))), (.ret (.lst (.cons (.var 3) (.cons (.op .Mod (.op .Mult (.op .Mod (.op .Add (.op .Add (.var 2) (.op .Mult (.c (.int 7919)) (.var 1))) (.c (.int 1))) (.c (.int 2147483647))) (.c (.int 48271))) (.c (.int 2147483647))) .nil))))]
noncomputable def d10 : Df := ⟨"_law_tape", top 18, ["_law_script", "_law_k"], ["_law_script", "_law_k", "_law_cell", "_law_digits"], b10⟩
noncomputable def b11 : List Stm := [(.iff (.cmp .Gt (.ix (.var 0) (.c (.int 0))) (.c (.int 0))) [(.asg (.nm 2) (.op .Mod (.ix (.var 0) (.c (.int 0))) (.var 1))), (.put (.var 0) (.c (.int 0)) (.op .FloorDiv (.ix (.var 0) (.c (.int 0))) (.var 1))), (.ret (.var 2))] []), (.put (.var 0) (.c (.int 1)) (.op .Mod (.op .Add (.op .Mult (.ix (.var 0) (.c (.int 1))) (.c (.int 48271))) (.c (.int 12345))) (.c (.int 2147483647)))), (.asg (.nm 3) (.op .Mod (.op .Mult (.ix (.var 0) (.c (.int 1))) (.op .Add (.op .Mod (.ix (.var 0) (.c (.int 1))) (.c (.int 1009))) (.c (.int 3)))) (.c (.int 2147483629)))), (.ret (.op .Mod (.op .Mod (.op .Mult (.var 3) (.op .Add (.op .Mod (.var 3) (.c (.int 997))) (.c (.int 5)))) (.c (.int 998244353))) (.var 1)))]
noncomputable def d11 : Df := ⟨"_law_draw", top 19, ["_law_tape_here", "_law_many"], ["_law_tape_here", "_law_many", "_law_found", "_law_once"], b11⟩
noncomputable def b12 : List Stm := [(.asg (.nm 2) (.call 11 (.cons (.var 0) (.cons (.c (.int 8)) .nil)))), (.asg (.nm 3) (.ix (.lst (.cons (.call 11 (.cons (.var 0) (.cons (.c (.int 7)) .nil))) (.cons (.op .Add (.c (.int 7)) (.call 11 (.cons (.var 0) (.cons (.c (.int 6)) .nil)))) .nil))) (.bi .int (.cons (.var 1) .nil)))), (.asg (.nm 4) (.lst .nil)), (.iff (.and (.cmp .Lt (.var 2) (.c (.int 3))) (.cmp .Gt (.var 3) (.c (.int 1)))) [(.loop (.nm 5) (.rng1 (.call 11 (.cons (.var 0) (.cons (.op .Add (.op .Mult (.c (.int 2)) (.var 3)) (.c (.int 1))) .nil)))) [(.asg (.nm 6) (.call 11 (.cons (.var 0) (.cons (.var 3) .nil)))), (.expr (.mt .append (.var 4) (.cons (.tup (.cons (.var 6) (.cons (.op .Mod (.op .Add (.op .Add (.var 6) (.c (.int 1))) (.call 11 (.cons (.var 0) (.cons (.op .Sub (.var 3) (.c (.int 1))) .nil)))) (.var 3)) .nil))) .nil)))])] []), (.iff (.and (.cmp .Eq (.var 2) (.c (.int 3))) (.cmp .Gt (.var 3) (.c (.int 2)))) [(.asg (.nm 4) (.op .Add (.comp ["_law_k"] ["_law_many"] [3] (.nm 0) (.rng1 (.var 3)) .no (.tup (.cons (.var 0) (.cons (.op .Mod (.op .Add (.var 0) (.c (.int 1))) (.var 1)) .nil)))) (.lst (.cons (.tup (.cons (.c (.int 0)) (.cons (.op .Add (.call 11 (.cons (.var 0) (.cons (.op .Sub (.var 3) (.c (.int 1))) .nil))) (.c (.int 1))) .nil))) .nil))))] []), (.iff (.and (.cmp .Eq (.var 2) (.c (.int 4))) (.cmp .Gt (.var 3) (.c (.int 1)))) [(.asg (.nm 4) (.comp ["_law_k"] [] [] (.nm 0) (.rng2 (.c (.int 1)) (.var 3)) .no (.tup (.cons (.c (.int 0)) (.cons (.var 0) .nil)))))] []), (.iff (.cmp .Eq (.var 2) (.c (.int 5))) [(.asg (.nm 3) (.bi .min (.cons (.var 3) (.cons (.op .Add (.c (.int 5)) (.bi .int (.cons (.var 1) .nil))) .nil)))), (.loop (.nm 7) (.rng1 (.var 3)) [(.expr (.mt .extend (.var 4) (.cons (.comp ["_law_j"] ["_law_k"] [7] (.nm 0) (.rng1 (.var 7)) .no (.tup (.cons (.var 0) (.cons (.var 1) .nil)))) .nil)))])] []), (.iff (.cmp .Eq (.var 2) (.c (.int 6))) [(.asg (.nm 8) (.op .Add (.c (.int 1)) (.op .FloorDiv (.var 3) (.c (.int 2))))), (.loop (.nm 7) (.rng1 (.var 8)) [(.expr (.mt .extend (.var 4) (.cons (.comp ["_law_j"] ["_law_tape_here", "_law_k"] [0, 7] (.nm 0) (.rng2 (.var 8) (.var 3)) (.yes (.cmp .Gt (.call 11 (.cons (.var 1) (.cons (.c (.int 3)) .nil))) (.c (.int 0)))) (.tup (.cons (.var 2) (.cons (.var 0) .nil)))) .nil)))])] []), (.iff (.cmp .Eq (.var 2) (.c (.int 7))) [(.asg (.nm 3) (.op .Add (.c (.int 3)) (.op .FloorDiv (.var 3) (.c (.int 3))))), (.loop (.nm 7) (.rng1 (.c (.int 3))) [(.expr (.mt .extend (.var 4) (.cons (.op .Mult (.lst (.cons (.tup (.cons (.var 7) (.cons (.op .Mod (.op .Add (.var 7) (.c (.int 1))) (.c (.int 3))) .nil))) .nil)) (.op .Add (.c (.int 1)) (.call 11 (.cons (.var 0) (.cons (.c (.int 3)) .nil))))) .nil)))])] []), (.ret (.tup (.cons (.var 3) (.cons (.var 4) .nil))))]
noncomputable def d12 : Df := ⟨"_law_pairs_by", top 20, ["_law_tape_here", "_law_great"], ["_law_tape_here", "_law_great", "_law_way", "_law_many", "_law_found", "_law_turn", "_law_one", "_law_k", "_law_sides"], b12⟩
noncomputable def b13 : List Stm := [(.asg (.tup (.cons (.nm 2) (.cons (.nm 3) .nil))) (.call 12 (.cons (.var 0) (.cons (.var 1) .nil)))), (.iff (.cmp .Eq (.var 3) (.lst .nil)) [(.asg (.tup (.cons (.nm 2) (.cons (.nm 3) .nil))) (.call 12 (.cons (.var 0) (.cons (.var 1) .nil))))] []), (.iff (.and (.cmp .NotEq (.var 3) (.lst .nil)) (.cmp .Eq (.call 11 (.cons (.var 0) (.cons (.c (.int 4)) .nil))) (.c (.int 0)))) [(.asg (.nm 3) (.op .Add (.var 3) (.comp ["_law_turn"] ["_law_pairs", "_law_tape_here"] [3, 0] (.nm 0) (.rng1 (.op .Add (.c (.int 1)) (.call 11 (.cons (.var 0) (.cons (.c (.int 3)) .nil))))) .no (.ix (.var 1) (.call 11 (.cons (.var 2) (.cons (.bi .len (.cons (.var 1) .nil)) .nil)))))))] []), (.asg (.nm 4) (.lst .nil)), (.loop (.tup (.cons (.nm 5) (.cons (.nm 6) .nil))) (.seq (.var 3)) [(.expr (.mt .insert (.var 4) (.cons (.call 11 (.cons (.var 0) (.cons (.op .Add (.bi .len (.cons (.var 4) .nil)) (.c (.int 1))) .nil))) (.cons (.tup (.cons (.bi .min (.cons (.var 5) (.cons (.var 6) .nil))) (.cons (.bi .max (.cons (.var 5) (.cons (.var 6) .nil))) .nil))) .nil))))]), (.ret (.tup (.cons (.var 2) (.cons (.bi .tuple (.cons (.var 4) .nil)) .nil))))]
noncomputable def d13 : Df := ⟨"_law_web", top 21, ["_law_tape_here", "_law_great"], ["_law_tape_here", "_law_great", "_law_many", "_law_pairs", "_law_ties", "_law_one", "_law_other"], b13⟩
noncomputable def b14 : List Stm := [(.ret (.call 13 (.cons (.var 0) (.cons (.cmp .Eq (.call 11 (.cons (.var 0) (.cons (.c (.int 8)) .nil))) (.c (.int 0))) .nil))))]
noncomputable def d14 : Df := ⟨"_law_some_web", top 22, ["_law_tape_here"], ["_law_tape_here"], b14⟩
noncomputable def b15 : List Stm := [(.iff (.or (.cmp .Eq (.ix (.var 1) (.c (.int 0))) (.c (.int 0))) (.cmp .Eq (.ix (.var 2) (.c (.int 0))) (.c (.int 0)))) [(.ret (.ix (.lst (.cons (.var 1) (.cons (.var 2) .nil))) (.bi .int (.cons (.cmp .Eq (.ix (.var 1) (.c (.int 0))) (.c (.int 0))) .nil))))] []), (.asg (.nm 3) (.call 11 (.cons (.var 0) (.cons (.ix (.var 1) (.c (.int 0))) .nil)))), (.asg (.nm 4) (.call 11 (.cons (.var 0) (.cons (.ix (.var 2) (.c (.int 0))) .nil)))), (.asg (.nm 5) (.comp ["_law_place"] ["_law_spot", "_law_at", "_law_one"] [4, 3, 1] (.nm 0) (.rng1 (.ix (.var 2) (.c (.int 0)))) .no (.ife (.cmp .Eq (.var 0) (.var 1)) (.var 2) (.op .Sub (.op .Add (.ix (.var 3) (.c (.int 0))) (.var 0)) (.bi .int (.cons (.cmp .Gt (.var 0) (.var 1)) .nil)))))), (.asg (.nm 6) (.bi .list (.cons (.ix (.var 1) (.c (.int 1))) .nil))), (.loop (.nm 7) (.seq (.ix (.var 2) (.c (.int 1)))) [(.asg (.nm 8) (.tup (.cons (.bi .min (.cons (.ix (.var 5) (.ix (.var 7) (.c (.int 0)))) (.cons (.ix (.var 5) (.ix (.var 7) (.c (.int 1)))) .nil))) (.cons (.bi .max (.cons (.ix (.var 5) (.ix (.var 7) (.c (.int 0)))) (.cons (.ix (.var 5) (.ix (.var 7) (.c (.int 1)))) .nil))) .nil)))), (.expr (.mt .insert (.var 6) (.cons (.call 11 (.cons (.var 0) (.cons (.op .Add (.bi .len (.cons (.var 6) .nil)) (.c (.int 1))) .nil))) (.cons (.var 8) .nil))))]), (.ret (.tup (.cons (.op .Sub (.op .Add (.ix (.var 1) (.c (.int 0))) (.ix (.var 2) (.c (.int 0)))) (.c (.int 1))) (.cons (.bi .tuple (.cons (.var 6) .nil)) .nil))))]
noncomputable def d15 : Df := ⟨"_law_joined", top 23, ["_law_tape_here", "_law_one", "_law_other"], ["_law_tape_here", "_law_one", "_law_other", "_law_at", "_law_spot", "_law_names", "_law_ties", "_law_pair", "_law_here"], b15⟩
noncomputable def b16 : List Stm := [(.par 1 2 (.lst .nil) (.c (.int 0))), (.loop (.nm 3) (.rng1 (.op .Add (.c (.int 4)) (.call 11 (.cons (.var 0) (.cons (.c (.int 5)) .nil))))) [(.asg (.nm 4) (.op .Add (.c (.int 1)) (.bi .int (.cons (.cmp .Gt (.call 11 (.cons (.var 0) (.cons (.c (.int 4)) .nil))) (.c (.int 0))) .nil)))), (.asg (.nm 5) (.lst (.cons (.tup (.cons (.var 2) (.cons (.op .Add (.var 2) (.c (.int 1))) .nil))) (.cons (.tup (.cons (.var 2) (.cons (.op .Add (.var 2) (.var 4)) .nil))) .nil)))), (.iff (.cmp .Gt (.var 4) (.c (.int 1))) [(.expr (.mt .append (.var 5) (.cons (.tup (.cons (.op .Add (.var 2) (.c (.int 1))) (.cons (.op .Add (.var 2) (.c (.int 2))) .nil))) .nil)))] []), (.loop (.nm 6) (.seq (.var 5)) [(.expr (.mt .insert (.var 1) (.cons (.call 11 (.cons (.var 0) (.cons (.op .Add (.bi .len (.cons (.var 1) .nil)) (.c (.int 1))) .nil))) (.cons (.var 6) .nil))))]), (.asg (.nm 2) (.op .Add (.var 2) (.var 4)))]), (.ret (.tup (.cons (.op .Add (.var 2) (.c (.int 1))) (.cons (.bi .tuple (.cons (.var 1) .nil)) .nil))))]
noncomputable def d16 : Df := ⟨"_law_rings", top 24, ["_law_tape_here"], ["_law_tape_here", "_law_ties", "_law_last", "_law_turn", "_law_more", "_law_row", "_law_pair"], b16⟩
noncomputable def b17 : List Stm := [(.asg (.nm 1) (.call 13 (.cons (.var 0) (.cons (.c (.bl false)) .nil)))), (.iff (.cmp .Eq (.call 11 (.cons (.var 0) (.cons (.c (.int 6)) .nil))) (.c (.int 0))) [(.asg (.nm 1) (.call 16 (.cons (.var 0) .nil)))] []), (.loop (.nm 2) (.rng1 (.op .Mult (.call 11 (.cons (.var 0) (.cons (.c (.int 3)) .nil))) (.bi .int (.cons (.cmp .Lt (.ix (.var 1) (.c (.int 0))) (.c (.int 8))) .nil)))) [(.asg (.nm 1) (.call 15 (.cons (.var 0) (.cons (.var 1) (.cons (.call 13 (.cons (.var 0) (.cons (.c (.bl false)) .nil))) .nil)))))]), (.iff (.cmp .Eq (.call 11 (.cons (.var 0) (.cons (.c (.int 8)) .nil))) (.c (.int 0))) [(.asg (.nm 3) (.call 13 (.cons (.var 0) (.cons (.c (.bl false)) .nil)))), (.asg (.nm 1) (.tup (.cons (.op .Add (.ix (.var 1) (.c (.int 0))) (.ix (.var 3) (.c (.int 0)))) (.cons (.op .Add (.ix (.var 1) (.c (.int 1))) (.bi .tuple (.cons (.comp ["_law_one", "_law_other"] ["_law_web_here"] [1] (.tup (.cons (.nm 0) (.cons (.nm 1) .nil))) (.seq (.ix (.var 3) (.c (.int 1)))) .no (.tup (.cons (.op .Add (.var 0) (.ix (.var 2) (.c (.int 0)))) (.cons (.op .Add (.var 1) (.ix (.var 2) (.c (.int 0)))) .nil)))) .nil))) .nil))))] []), (.ret (.var 1))]
noncomputable def d17 : Df := ⟨"_law_joined_web", top 25, ["_law_tape_here"], ["_law_tape_here", "_law_web_here", "_law_turn", "_law_more"], b17⟩
noncomputable def b18 : List Stm := [(.asg (.nm 2) (.dctl (.comp ["_law_place"] ["_law_out"] [1] (.nm 0) (.rng1 (.ix (.var 0) (.c (.int 0)))) (.yes (.cmp .NotEq (.var 0) (.var 1))) (.tup (.cons (.var 0) (.cons (.var 0) .nil)))))), (.loop (.nm 3) (.rng1 (.ix (.var 0) (.c (.int 0)))) [(.loop (.tup (.cons (.nm 4) (.cons (.nm 5) .nil))) (.seq (.ix (.var 0) (.c (.int 1)))) [(.iff (.cmp .NotIn (.var 1) (.tup (.cons (.var 4) (.cons (.var 5) .nil)))) [(.asg (.nm 6) (.bi .min (.cons (.dget (.var 2) (.var 4)) (.cons (.dget (.var 2) (.var 5)) .nil)))), (.dput (.var 2) (.var 4) (.var 6)), (.dput (.var 2) (.var 5) (.var 6))] [])])]), (.ret (.var 2))]
noncomputable def d18 : Df := ⟨"_law_beside_out", top 26, ["_law_web_here", "_law_out"], ["_law_web_here", "_law_out", "_law_marks", "_law_turn", "_law_one", "_law_other", "_law_low"], b18⟩
noncomputable def b19 : List Stm := [(.par 1 2 (.op .Add (.c (.int 20)) (.call 11 (.cons (.var 0) (.cons (.c (.int 11)) .nil)))) (.call 11 (.cons (.var 0) (.cons (.c (.int 2)) .nil)))), (.asg (.nm 3) (.lst .nil)), (.loop (.nm 4) (.rng1 (.op .Add (.c (.int 30)) (.call 11 (.cons (.var 0) (.cons (.c (.int 61)) .nil))))) [(.par 5 6 (.call 11 (.cons (.var 0) (.cons (.var 1) .nil))) (.call 11 (.cons (.var 0) (.cons (.op .Sub (.var 1) (.c (.int 1))) .nil)))), (.asg (.nm 7) (.op .Mod (.op .Add (.op .Add (.var 5) (.c (.int 1))) (.var 6)) (.var 1))), (.iff (.cmp .Eq (.var 2) (.c (.int 0))) [(.asg (.nm 5) (.op .Mod (.var 5) (.op .FloorDiv (.var 1) (.c (.int 2))))), (.asg (.nm 7) (.op .Add (.op .FloorDiv (.var 1) (.c (.int 2))) (.op .Mod (.var 6) (.op .Sub (.var 1) (.op .FloorDiv (.var 1) (.c (.int 2)))))))] []), (.expr (.mt .append (.var 3) (.cons (.tup (.cons (.bi .min (.cons (.var 5) (.cons (.var 7) .nil))) (.cons (.bi .max (.cons (.var 5) (.cons (.var 7) .nil))) .nil))) .nil)))]), (.ret (.tup (.cons (.var 1) (.cons (.bi .tuple (.cons (.var 3) .nil)) .nil))))]
noncomputable def d19 : Df := ⟨"_law_wide_web", top 27, ["_law_tape_here"], ["_law_tape_here", "_law_many", "_law_half", "_law_ties", "_law_turn", "_law_one", "_law_more", "_law_other"], b19⟩
noncomputable def b20 : List Stm := [(.asg (.nm 1) (.call 18 (.cons (.var 0) (.cons (.neg (.c (.int 1))) .nil)))), (.asg (.nm 2) (.lst .nil)), (.loop (.nm 3) (.rng1 (.ix (.var 0) (.c (.int 0)))) [(.asg (.nm 4) (.call 18 (.cons (.var 0) (.cons (.var 3) .nil)))), (.asg (.nm 5) (.comp ["_law_place"] ["_law_whole", "_law_out"] [1, 3] (.nm 0) (.dk (.var 4)) (.yes (.cmp .Eq (.dget (.var 1) (.var 0)) (.dget (.var 1) (.var 2)))) (.var 0))), (.iff (.cmp .Gt (.lenset (.comp ["_law_place"] ["_law_marks"] [4] (.nm 0) (.seq (.var 5)) .no (.dget (.var 1) (.var 0)))) (.c (.int 1))) [(.expr (.mt .append (.var 2) (.cons (.var 3) .nil)))] [])]), (.ret (.var 2))]
noncomputable def d20 : Df := ⟨"_law_cuts", top 28, ["_law_web_here"], ["_law_web_here", "_law_whole", "_law_found", "_law_out", "_law_marks", "_law_parted"], b20⟩
noncomputable def b21 : List Stm := [(.loop (.nm 1) (.rng1 (.bi .max (.cons (.c (.int 2)) (.cons (.bi .min (.cons (.bi .len (.cons (.var 0) .nil)) (.cons (.c (.int 4)) .nil))) .nil)))) [(.asg (.nm 2) (.call 10 (.cons (.var 0) (.cons (.var 1) .nil)))), (.asg (.nm 3) (.ife (.cmp .Eq (.call 11 (.cons (.var 2) (.cons (.c (.int 2)) .nil))) (.c (.int 0))) (.call 14 (.cons (.var 2) .nil)) (.call 17 (.cons (.var 2) .nil)))), (.iff (.and (.cmp .Eq (.var 1) (.c (.int 0))) (.cmp .Eq (.call 11 (.cons (.var 2) (.cons (.c (.int 16)) .nil))) (.c (.int 0)))) [(.asg (.nm 3) (.call 19 (.cons (.var 2) .nil)))] []), (.asg (.nm 4) (.call 20 (.cons (.var 3) .nil))), (.loop (.nm 5) (.rng1 (.c (.int 2))) [(.asg (.nm 6) (.call 9 (.cons (.var 3) .nil))), (.iff (.or (.not (.bi .isi (.cons (.var 6) (.cons (.tyc .list) .nil)))) (.or (.cmp .NotEq (.var 6) (.var 4)) (.bi .any (.cons (.comp ["_law_place"] [] [] (.nm 0) (.seq (.var 6)) .no (.bi .isi (.cons (.var 0) (.cons (.tyc .bool) .nil)))) .nil)))) [(.ret (.c (.bl false)))] []), (.expr (.mt .append (.var 6) (.cons (.neg (.c (.int 1))) .nil)))])]), (.ret (.c (.bl true)))]
noncomputable def d21 : Df := ⟨"law", top 29, ["_law_script"], ["_law_script", "_law_k", "_law_tape_here", "_law_web_here", "_law_due", "_law_turn", "_law_found"], b21⟩
noncomputable def prog : List Df := [d0, d1, d2, d3, d4, d5, d6, d7, d8, d9, d10, d11, d12, d13, d14, d15, d16, d17, d18, d19, d20, d21]
theorem prog_chk : prog.all (chkD (prog.map (·.name))) = true := by decide +kernel
end Hue
set_option Elab.async false
set_option linter.all false
set_option maxRecDepth 100000
set_option maxHeartbeats 1000000
namespace Rf
open PySem L2
theorem seq_loc {k : Nat} {S : Sto} {xs : List SV} (h : S[k]? = some (.lst xs)) : seqS (.loc k) S = some xs := by simp only [seqS, h]
theorem iset_lst {k : Nat} {S : Sto} {xs : List SV} (h : S[k]? = some (.lst xs)) : isetS (.loc k) S = none := by simp only [isetS, h]
theorem ty_loc {k : Nat} {S : Sto} {xs : List SV} (h : S[k]? = some (.lst xs)) : tyS (.loc k) S = some .list := by simp only [tyS, h]
theorem ifT {b : Bool} {A B : Prop} (h : b = true) (a : A) : if b = true then A else B := by rw [if_pos h]; exact a
theorem ifF {b : Bool} {A B : Prop} (h : b = false) (a : B) : if b = true then A else B := by rw [if_neg (by rw [h]; decide)]; exact a
theorem ifD {c A B : Prop} [Decidable c] (h1 : c → A) (h2 : ¬ c → B) : if decide c = true then A else B := by
  by_cases h : c
  · rw [if_pos (decide_eq_true h)]; exact h1 h
  · rw [if_neg (by simpa using h)]; exact h2 h
theorem ifB {b : Bool} {A B : Prop} (h1 : b = true → A) (h2 : b = false → B) : if b = true then A else B := by
  cases b with
  | true => rw [if_pos rfl]; exact h1 rfl
  | false => rw [if_neg (by decide)]; exact h2 rfl
theorem at_self {S : Sto} {k : Nat} {o u : SO} (h : S[k]? = some o) : (S.set k u)[k]? = some u := List.getElem?_set_self ((List.getElem?_eq_some_iff.mp h).1)
theorem at_ne {S : Sto} {k j : Nat} {u : SO} (h : k ≠ j) : (S.set k u)[j]? = S[j]? := List.getElem?_set_ne h
theorem at_new {S : Sto} {o : SO} : (S ++ [o])[S.length]? = some o := List.getElem?_concat_length
theorem at_old {S : Sto} {o u : SO} {k : Nat} (h : S[k]? = some u) : (S ++ [o])[k]? = some u := by
  rw [List.getElem?_append_left ((List.getElem?_eq_some_iff.mp h).1)]; exact h
theorem lt_of {S : Sto} {o : SO} {k : Nat} (h : S[k]? = some o) : k < S.length := (List.getElem?_eq_some_iff.mp h).1
structure TapeS (S : Sto) (t : Nat) : Prop where
  ex : ∃ a b : Int, S[t]? = some (.lst [.int a, .int b]) ∧ 0 ≤ a ∧ 0 ≤ b ∧ b < 2147483647
structure On (t : Nat) (S S' : Sto) : Prop where
  len : S.length ≤ S'.length
  keep : ∀ k o, k ≠ t → S[k]? = some o → S'[k]? = some o
theorem On.refl (t : Nat) (S : Sto) : On t S S := ⟨Nat.le_refl _, fun _ _ _ h => h⟩
theorem On.trans {t : Nat} {S S' S'' : Sto} (a : On t S S') (b : On t S' S'') : On t S S'' := ⟨Nat.le_trans a.len b.len, fun k o n h => b.keep k o n (a.keep k o n h)⟩
theorem On.push {t : Nat} {S S' : Sto} {o : SO} (a : On t S S') : On t S (S' ++ [o]) := ⟨by rw [List.length_append]; have := a.len; omega, fun k u n h => at_old (a.keep k u n h)⟩
theorem On.tape {t : Nat} {S S' : Sto} {o : SO} (a : On t S S') : On t S (S'.set t o) := ⟨by rw [List.length_set]; exact a.len, fun k u n h => by rw [at_ne (Ne.symm n)]; exact a.keep k u n h⟩
theorem On.new {t k : Nat} {S S' : Sto} {o : SO} (a : On t S S') (h : S.length ≤ k) : On t S (S'.set k o) := ⟨by rw [List.length_set]; exact a.len, fun j u n hj => by
  rw [at_ne (fun z => by have := lt_of hj; omega)]; exact a.keep j u n hj⟩
theorem TapeS.push {S : Sto} {t : Nat} {o : SO} (h : TapeS S t) : TapeS (S ++ [o]) t := let ⟨a, b, e, z⟩ := h.ex; ⟨a, b, at_old e, z⟩
theorem TapeS.other {S : Sto} {t k : Nat} {o : SO} (h : TapeS S t) (n : k ≠ t) : TapeS (S.set k o) t := let ⟨a, b, e, z⟩ := h.ex; ⟨a, b, by rw [at_ne n]; exact e, z⟩
theorem TapeS.lt {S : Sto} {t : Nat} (h : TapeS S t) : t < S.length := let ⟨_, _, e, _⟩ := h.ex; lt_of e
theorem loop_inv {keep : Sto → Prop} {g : Tg} {b : WS} {D : EndsS} (mb : MonoS b) (I : Nat → EnvS → Sto → Prop) {xs : List SV} {ρ : EnvS} {S : Sto} (h0 : I 0 ρ S) (hk : ∀ i ρ S, I i ρ S → keep S)
    (hs : ∀ i x ρ S, xs[i]? = some x → I i ρ S → wTg g x ρ fun ρ2 => b { D with nx := I (i + 1), ct := I (i + 1), bk := D.nx } ρ2 S) (hd : ∀ ρ S, I xs.length ρ S → D.nx ρ S) : wLoop keep g b D xs ρ S := by
  have go : ∀ (ys : List SV) (i : Nat) (ρ : EnvS) (S : Sto), xs.drop i = ys → i ≤ xs.length → I i ρ S → wLoop keep g b D ys ρ S := by
    intro ys
    induction ys with
    | nil =>
      intro i ρ S e hi h
      have : i = xs.length := by
        have := congrArg List.length e
        rw [List.length_drop, List.length_nil] at this
        omega
      subst this
      unfold wLoop
      exact ⟨hk _ _ _ h, hd _ _ h⟩
    | cons y ys ih =>
      intro i ρ S e hi h
      have hy : xs[i]? = some y := by
        rw [← List.head?_drop, e]; rfl
      have hlt := (List.getElem?_eq_some_iff.mp hy).1
      have e2 : xs.drop (i + 1) = ys := by rw [← List.tail_drop, e]; rfl
      unfold wLoop
      refine ⟨hk _ _ _ h, mono_tg g (fun ρ2 q => ?_) (hs i y ρ S hy h)⟩
      exact mb.go (D := { D with nx := I (i + 1), ct := I (i + 1), bk := D.nx }) q ⟨fun ρ' S' z => ih (i + 1) ρ' S' e2 hlt z, fun _ _ z => z, fun _ _ z => z, fun ρ' S' z => ih (i + 1) ρ' S' e2 hlt z⟩
  exact go xs 0 ρ S rfl (Nat.zero_le _) h0
theorem turns_inv {keep : Sto → Prop} {g : Tg} {t : WT} {e : WE} {ρ : EnvS} {Q : List SV → Sto → Prop} (mt : MonoT t) (me : Mono e) (I : Nat → List SV → Sto → Prop) {xs : List SV} {S : Sto} (h0 : I 0 [] S) (hk : ∀ i ys S, I i ys S → keep S)
    (hs : ∀ i x ys S, xs[i]? = some x → I i ys S → wTg g x ρ fun ρ2 => t ρ2 S fun b S1 => if b = true then e ρ2 S1 fun y S2 => ys.length < big ∧ I (i + 1) (ys ++ [y]) S2 else I (i + 1) ys S1) (hd : ∀ ys S, I xs.length ys S → Q ys S) : wTurns keep g t e ρ Q xs [] S := by
  have go : ∀ (zs : List SV) (i : Nat) (ys : List SV) (S : Sto), xs.drop i = zs → i ≤ xs.length → I i ys S → wTurns keep g t e ρ Q zs ys S := by
    intro zs
    induction zs with
    | nil =>
      intro i ys S e' hi h
      have : i = xs.length := by
        have := congrArg List.length e'
        rw [List.length_drop, List.length_nil] at this
        omega
      subst this
      unfold wTurns
      exact ⟨hk _ _ _ h, hd _ _ h⟩
    | cons y zs ih =>
      intro i ys S e' hi h
      have hy : xs[i]? = some y := by rw [← List.head?_drop, e']; rfl
      have hlt := (List.getElem?_eq_some_iff.mp hy).1
      have e2 : xs.drop (i + 1) = zs := by rw [← List.tail_drop, e']; rfl
      unfold wTurns
      refine ⟨hk _ _ _ h, mono_tg g (fun ρ2 q => mt _ _ _ _ (fun b S1 q => ite_imp (fun q => me _ _ _ _ (fun v S2 q => ⟨q.1, ih (i + 1) _ S2 e2 hlt q.2⟩) q) (fun q => ih (i + 1) _ S1 e2 hlt q) q) q) (hs i y ys S hy h)⟩
  exact go xs 0 [] S rfl (Nat.zero_le _) h0
theorem rng_get {lo hi : Int} {i : Nat} {x : SV} (h : (rngS lo hi)[i]? = some x) : x = .int (lo + i) ∧ lo + i < hi := by
  unfold rngS at h
  have hi' : i < (hi - lo).toNat := by
    have := (List.getElem?_eq_some_iff.mp h).1
    simpa using this
  rw [List.getElem?_map, List.getElem?_range hi'] at h
  exact ⟨(Option.some.inj h).symm, by omega⟩
theorem rng_len {lo hi : Int} : (rngS lo hi).length = (hi - lo).toNat := by unfold rngS; simp
noncomputable def pairS (e : Nat × Nat) : SV := .tup [.int e.1, .int e.2]
end Rf
set_option Elab.async false
set_option linter.all false
set_option maxRecDepth 100000
set_option maxHeartbeats 1000000
namespace Rf
open PySem L2
noncomputable def bTape : List Stm := [(.asg (.nm 2) (.c (.int 0))), (.iff (.cmp .Lt (.var 1) (.bi .len (.cons (.var 0) .nil))) [(.asg (.nm 2) (.ix (.var 0) (.var 1)))] []), (.asg (.nm 3) (.op .Mult (.bi .abs (.cons (.var 2) .nil)) (.bi .int (.cons (.cmp .GtE (.bi .abs (.cons (.var 2) .nil)) (.op .Pow (.c (.int 10)) (.c (.int 18)))) .nil)))), (.ret (.lst (.cons (.var 3) (.cons (.op .Mod (.op .Mult (.op .Mod (.op .Add (.op .Add (.var 2) (.op .Mult (.c (.int 7919)) (.var 1))) (.c (.int 1))) (.c (.int 2147483647))) (.c (.int 48271))) (.c (.int 2147483647))) .nil))))]
noncomputable def bDraw : List Stm := [(.iff (.cmp .Gt (.ix (.var 0) (.c (.int 0))) (.c (.int 0))) [(.asg (.nm 2) (.op .Mod (.ix (.var 0) (.c (.int 0))) (.var 1))), (.put (.var 0) (.c (.int 0)) (.op .FloorDiv (.ix (.var 0) (.c (.int 0))) (.var 1))), (.ret (.var 2))] []), (.put (.var 0) (.c (.int 1)) (.op .Mod (.op .Add (.op .Mult (.ix (.var 0) (.c (.int 1))) (.c (.int 48271))) (.c (.int 12345))) (.c (.int 2147483647)))), (.asg (.nm 3) (.op .Mod (.op .Mult (.ix (.var 0) (.c (.int 1))) (.op .Add (.op .Mod (.ix (.var 0) (.c (.int 1))) (.c (.int 1009))) (.c (.int 3)))) (.c (.int 2147483629)))), (.ret (.op .Mod (.op .Mod (.op .Mult (.var 3) (.op .Add (.op .Mod (.var 3) (.c (.int 997))) (.c (.int 5)))) (.c (.int 998244353))) (.var 1)))]
noncomputable def DrawSp (s : Sn) : Prop := ∀ {t : Nat} {m : Int} {S : Sto} {Q : QE}, TapeS S t → 0 < m → m < 1073741824 → (∀ (r : Int) (S' : Sto), 0 ≤ r → r < m → TapeS S' t → On t S S' → S'.length = S.length → Q (.int r) S') → s [.loc t, .int m] S Q
noncomputable def TapeSp (s : Sn) : Prop := ∀ {ns : List Int} {k : Nat} {S : Sto} {Q : QE}, ns.length ≤ 63 → k ≤ 1000 → (∀ a b : Int, 0 ≤ a → 0 ≤ b → b < 2147483647 → Q (.loc S.length) (S ++ [.lst [.int a, .int b]])) → s [.ro (ns.map SV.int), .int k] S Q
theorem b01 (b : Bool) : -(2 ^ 64) < (if b = true then (1 : Int) else 0) ∧ (if b = true then (1 : Int) else 0) < 2 ^ 64 := by cases b <;> decide
theorem b00 (b : Bool) : 0 ≤ (if b = true then (1 : Int) else 0) := by cases b <;> decide
theorem draw_sp {Δ : Nat → Sn} {D : Df} (hb : D.body = bDraw) (hN : D.N.length = 4) (hp : D.ps.length = 2) : DrawSp (wDef Δ D) := by
  intro t m S Q T h0 h1 q
  obtain ⟨a, b, hS, ha, hb0, hb1⟩ := T.ex
  unfold wDef
  rw [hb, hN]
  refine ⟨hp.symm, ?_⟩
  have go : ∀ r a' b' : Int, 0 ≤ r → r < m → 0 ≤ a' → 0 ≤ b' → b' < 2147483647 → Q (.int r) (S.set t (.lst [.int a', .int b'])) := fun r a' b' r0 r1 a0 b0 b1 => q r _ r0 r1 ⟨a', b', at_self hS, a0, b0, b1⟩ (On.refl t S).tape (by rw [List.length_set])
  refine ⟨_, rfl, _, _, seq_loc hS, rfl, _, rfl, ifD (fun h => ?_) (fun h => ?_)⟩
  · refine ⟨_, rfl, _, _, seq_loc hS, rfl, _, rfl, h0, ?_⟩
    refine ⟨_, rfl, _, _, seq_loc hS, rfl, _, rfl, ⟨h0, h1⟩, _, rfl, _, _, hS, rfl, _, rfl, ?_⟩
    exact go _ _ _ (Int.emod_nonneg _ (by omega)) (Int.emod_lt_of_pos _ h0) (Int.ediv_nonneg ha (by omega)) hb0 hb1
  · refine ⟨_, rfl, _, _, seq_loc hS, rfl, .inr (by decide), show (0 : Int) < 2147483647 by decide, _, rfl, _, _, hS, rfl, ?_⟩
    have e0 : 0 ≤ (b * 48271 + 12345) % 2147483647 := Int.emod_nonneg _ (by decide)
    have e1 : (b * 48271 + 12345) % 2147483647 < 2147483647 := Int.emod_lt_of_pos _ (by decide)
    have hS1 : (S.set t (.lst [.int a, .int ((b * 48271 + 12345) % 2147483647)]))[t]? = some (.lst [.int a, .int ((b * 48271 + 12345) % 2147483647)]) := at_self hS
    refine ⟨_, rfl, _, _, seq_loc hS1, rfl, _, rfl, _, _, seq_loc hS1, rfl, show (0 : Int) < 1009 by decide, .inl ⟨by omega, by omega⟩, show (0 : Int) < 2147483629 by decide, ?_⟩
    have f0 : 0 ≤ ((b * 48271 + 12345) % 2147483647 * ((b * 48271 + 12345) % 2147483647 % 1009 + 3)) % 2147483629 := Int.emod_nonneg _ (by decide)
    have f1 : ((b * 48271 + 12345) % 2147483647 * ((b * 48271 + 12345) % 2147483647 % 1009 + 3)) % 2147483629 < 2147483629 := Int.emod_lt_of_pos _ (by decide)
    refine ⟨_, rfl, _, rfl, show (0 : Int) < 997 by decide, .inl ⟨by omega, by omega⟩, show (0 : Int) < 998244353 by decide, _, rfl, h0, ?_⟩
    exact go _ _ _ (Int.emod_nonneg _ (by omega)) (Int.emod_lt_of_pos _ h0) ha e0 e1
theorem tape_sp {Δ : Nat → Sn} {D : Df} (hb : D.body = bTape) (hN : D.N.length = 4) (hp : D.ps.length = 2) : TapeSp (wDef Δ D) := by
  intro ns k S Q hl hk q
  unfold wDef
  rw [hb, hN]
  refine ⟨hp.symm, ?_⟩
  have fin : ∀ c : Int, wSs Δ [(.asg (.nm 3) (.op .Mult (.bi .abs (.cons (.var 2) .nil)) (.bi .int (.cons (.cmp .GtE (.bi .abs (.cons (.var 2) .nil)) (.op .Pow (.c (.int 10)) (.c (.int 18)))) .nil)))), (.ret (.lst (.cons (.var 3) (.cons (.op .Mod (.op .Mult (.op .Mod (.op .Add (.op .Add (.var 2) (.op .Mult (.c (.int 7919)) (.var 1))) (.c (.int 1))) (.c (.int 2147483647))) (.c (.int 48271))) (.c (.int 2147483647))) .nil))))] (endsOf Q) [some (.ro (ns.map SV.int)), some (.int k), some (.int c), none] S := fun c => by
    refine ⟨_, rfl, _, rfl, ⟨by decide, by decide, by decide⟩, .inr (b01 _), ?_⟩
    refine ⟨_, rfl, _, rfl, _, rfl, .inl ⟨by decide, by decide⟩, show (0 : Int) < 2147483647 by decide, .inr ⟨by decide, by decide⟩, show (0 : Int) < 2147483647 by decide, by show 2 ≤ big; decide, ?_⟩
    refine q _ _ (Int.mul_nonneg (by split <;> omega) (b00 _)) (Int.emod_nonneg _ (by decide)) (Int.emod_lt_of_pos _ (by decide))
  refine ⟨_, rfl, _, rfl, _, rfl, _, rfl, ifD (fun h => ?_) (fun h => fin 0)⟩
  have hk' : k < ns.length := by
    have : ((ns.map SV.int).length : Int) = ns.length := by rw [List.length_map]
    omega
  refine ⟨_, rfl, _, rfl, _, _, rfl, atI_nat (v := .int ns[k]) (by rw [List.getElem?_map, List.getElem?_eq_getElem hk']; rfl), ?_⟩
  exact fin _
end Rf
set_option Elab.async false
set_option linter.all false
set_option maxRecDepth 100000
set_option maxHeartbeats 2000000
namespace Rf
open PySem L2
noncomputable def q1 (kd : Nat) : Stm := (.asg (.nm 2) (.call kd (.cons (.var 0) (.cons (.c (.int 8)) .nil))))
noncomputable def q2 (kd : Nat) : Stm := (.asg (.nm 3) (.ix (.lst (.cons (.call kd (.cons (.var 0) (.cons (.c (.int 7)) .nil))) (.cons (.op .Add (.c (.int 7)) (.call kd (.cons (.var 0) (.cons (.c (.int 6)) .nil)))) .nil))) (.bi .int (.cons (.var 1) .nil))))
noncomputable def q3 (kd : Nat) : Stm := (.asg (.nm 4) (.lst .nil))
noncomputable def q4 (kd : Nat) : Stm := (.iff (.and (.cmp .Lt (.var 2) (.c (.int 3))) (.cmp .Gt (.var 3) (.c (.int 1)))) [(.loop (.nm 5) (.rng1 (.call kd (.cons (.var 0) (.cons (.op .Add (.op .Mult (.c (.int 2)) (.var 3)) (.c (.int 1))) .nil)))) [(.asg (.nm 6) (.call kd (.cons (.var 0) (.cons (.var 3) .nil)))), (.expr (.mt .append (.var 4) (.cons (.tup (.cons (.var 6) (.cons (.op .Mod (.op .Add (.op .Add (.var 6) (.c (.int 1))) (.call kd (.cons (.var 0) (.cons (.op .Sub (.var 3) (.c (.int 1))) .nil)))) (.var 3)) .nil))) .nil)))])] [])
noncomputable def q5 (kd : Nat) : Stm := (.iff (.and (.cmp .Eq (.var 2) (.c (.int 3))) (.cmp .Gt (.var 3) (.c (.int 2)))) [(.asg (.nm 4) (.op .Add (.comp ["_law_k"] ["_law_many"] [3] (.nm 0) (.rng1 (.var 3)) .no (.tup (.cons (.var 0) (.cons (.op .Mod (.op .Add (.var 0) (.c (.int 1))) (.var 1)) .nil)))) (.lst (.cons (.tup (.cons (.c (.int 0)) (.cons (.op .Add (.call kd (.cons (.var 0) (.cons (.op .Sub (.var 3) (.c (.int 1))) .nil))) (.c (.int 1))) .nil))) .nil))))] [])
noncomputable def q6 (kd : Nat) : Stm := (.iff (.and (.cmp .Eq (.var 2) (.c (.int 4))) (.cmp .Gt (.var 3) (.c (.int 1)))) [(.asg (.nm 4) (.comp ["_law_k"] [] [] (.nm 0) (.rng2 (.c (.int 1)) (.var 3)) .no (.tup (.cons (.c (.int 0)) (.cons (.var 0) .nil)))))] [])
noncomputable def q7 (kd : Nat) : Stm := (.iff (.cmp .Eq (.var 2) (.c (.int 5))) [(.asg (.nm 3) (.bi .min (.cons (.var 3) (.cons (.op .Add (.c (.int 5)) (.bi .int (.cons (.var 1) .nil))) .nil)))), (.loop (.nm 7) (.rng1 (.var 3)) [(.expr (.mt .extend (.var 4) (.cons (.comp ["_law_j"] ["_law_k"] [7] (.nm 0) (.rng1 (.var 7)) .no (.tup (.cons (.var 0) (.cons (.var 1) .nil)))) .nil)))])] [])
noncomputable def q8 (kd : Nat) : Stm := (.iff (.cmp .Eq (.var 2) (.c (.int 6))) [(.asg (.nm 8) (.op .Add (.c (.int 1)) (.op .FloorDiv (.var 3) (.c (.int 2))))), (.loop (.nm 7) (.rng1 (.var 8)) [(.expr (.mt .extend (.var 4) (.cons (.comp ["_law_j"] ["_law_tape_here", "_law_k"] [0, 7] (.nm 0) (.rng2 (.var 8) (.var 3)) (.yes (.cmp .Gt (.call kd (.cons (.var 1) (.cons (.c (.int 3)) .nil))) (.c (.int 0)))) (.tup (.cons (.var 2) (.cons (.var 0) .nil)))) .nil)))])] [])
noncomputable def q9 (kd : Nat) : Stm := (.iff (.cmp .Eq (.var 2) (.c (.int 7))) [(.asg (.nm 3) (.op .Add (.c (.int 3)) (.op .FloorDiv (.var 3) (.c (.int 3))))), (.loop (.nm 7) (.rng1 (.c (.int 3))) [(.expr (.mt .extend (.var 4) (.cons (.op .Mult (.lst (.cons (.tup (.cons (.var 7) (.cons (.op .Mod (.op .Add (.var 7) (.c (.int 1))) (.c (.int 3))) .nil))) .nil)) (.op .Add (.c (.int 1)) (.call kd (.cons (.var 0) (.cons (.c (.int 3)) .nil))))) .nil)))])] [])
noncomputable def q10 (kd : Nat) : Stm := (.ret (.tup (.cons (.var 3) (.cons (.var 4) .nil))))
noncomputable def q7l (kd : Nat) : Stm := (.loop (.nm 7) (.rng1 (.var 3)) [(.expr (.mt .extend (.var 4) (.cons (.comp ["_law_j"] ["_law_k"] [7] (.nm 0) (.rng1 (.var 7)) .no (.tup (.cons (.var 0) (.cons (.var 1) .nil)))) .nil)))])
noncomputable def q8l (kd : Nat) : Stm := (.loop (.nm 7) (.rng1 (.var 8)) [(.expr (.mt .extend (.var 4) (.cons (.comp ["_law_j"] ["_law_tape_here", "_law_k"] [0, 7] (.nm 0) (.rng2 (.var 8) (.var 3)) (.yes (.cmp .Gt (.call kd (.cons (.var 1) (.cons (.c (.int 3)) .nil))) (.c (.int 0)))) (.tup (.cons (.var 2) (.cons (.var 0) .nil)))) .nil)))])
noncomputable def q9l (kd : Nat) : Stm := (.loop (.nm 7) (.rng1 (.c (.int 3))) [(.expr (.mt .extend (.var 4) (.cons (.op .Mult (.lst (.cons (.tup (.cons (.var 7) (.cons (.op .Mod (.op .Add (.var 7) (.c (.int 1))) (.c (.int 3))) .nil))) .nil)) (.op .Add (.c (.int 1)) (.call kd (.cons (.var 0) (.cons (.c (.int 3)) .nil))))) .nil)))])
noncomputable def bPairs (kd : Nat) : List Stm := [q1 kd, q2 kd, q3 kd, q4 kd, q5 kd, q6 kd, q7 kd, q8 kd, q9 kd, q10 kd]
structure Prs (n : Nat) (es : List (Nat × Nat)) : Prop where
  en : ∀ e ∈ es, e.1 < n ∧ e.2 < n ∧ e.1 ≠ e.2
  len : es.length ≤ 58
  few : n ≤ 12
noncomputable def PairsSp (s : Sn) : Prop := ∀ {t : Nat} {g : Bool} {S : Sto} {Q : QE}, TapeS S t → (∀ (n : Nat) (es : List (Nat × Nat)) (l : Nat) (S' : Sto), Prs n es → S'[l]? = some (.lst (es.map pairS)) → S.length ≤ l → TapeS S' t → On t S S' → Q (.tup [.int n, .loc l]) S') → s [.loc t, .bl g] S Q
structure Ah (t : Nat) (S0 S : Sto) (l : Nat) (es : List (Nat × Nat)) : Prop where
  tape : TapeS S t
  on : On t S0 S
  at' : S[l]? = some (.lst (es.map pairS))
  new : S0.length ≤ l
  t0 : t < S0.length
theorem Ah.ne {t l : Nat} {S0 S : Sto} {es : List (Nat × Nat)} (h : Ah t S0 S l es) : l ≠ t := by have := h.new; have := h.t0; omega
theorem Ah.draw {t l : Nat} {S0 S S' : Sto} {es : List (Nat × Nat)} (h : Ah t S0 S l es) (T : TapeS S' t) (O : On t S S') : Ah t S0 S' l es := ⟨T, h.on.trans O, O.keep _ _ h.ne h.at', h.new, h.t0⟩
theorem Ah.push {t l : Nat} {S0 S : Sto} {es : List (Nat × Nat)} {o : SO} (h : Ah t S0 S l es) : Ah t S0 (S ++ [o]) l es := ⟨h.tape.push, h.on.push, at_old h.at', h.new, h.t0⟩
theorem Ah.put {t l : Nat} {S0 S : Sto} {es fs : List (Nat × Nat)} (h : Ah t S0 S l es) : Ah t S0 (S.set l (.lst (fs.map pairS))) l fs := ⟨h.tape.other h.ne, h.on.new h.new, at_self h.at', h.new, h.t0⟩
theorem pair_app (es : List (Nat × Nat)) (e : Nat × Nat) : es.map pairS ++ [.tup [.int e.1, .int e.2]] = (es ++ [e]).map pairS := by rw [List.map_append]; rfl
section
variable {Δ : Nat → Sn} {kd : Nat}
theorem way0 (hΔ : ∀ f, MonoN (Δ f)) (hd : DrawSp (Δ kd)) {t l n : Nat} {way : Int} {S0 S : Sto} {D : EndsS} {g : SV} {o5 o6 o7 o8 : Option SV} (A : Ah t S0 S l []) (hn : n ≤ 12)
    (q : ∀ (es : List (Nat × Nat)) (S' : Sto) (o5 o6 : Option SV), Prs n es → Ah t S0 S' l es → D.nx [some (.loc t), some g, some (.int way), some (.int n), some (.loc l), o5, o6, o7, o8] S') :
    wSt Δ (q4 kd) D [some (.loc t), some g, some (.int way), some (.int n), some (.loc l), o5, o6, o7, o8] S := by
  have stay := q [] S o5 o6 ⟨(fun _ h => nomatch h), by simp, hn⟩ A
  refine ⟨_, rfl, _, rfl, ifD (fun h1 => ?_) (fun h1 => ifF rfl stay)⟩
  refine ⟨_, rfl, _, rfl, ifD (fun h2 => ?_) (fun h2 => stay)⟩
  have h2 : 1 < n := by omega
  refine ⟨_, rfl, _, rfl, .inl ⟨by decide, by decide⟩, hd A.tape (by omega) (by omega) fun r S1 r0 r1 T1 O1 _ => ⟨r, rfl, ⟨by omega, by omega⟩, ?_⟩⟩
  have A1 := A.draw T1 O1
  refine loop_inv (ss_mono hΔ _) (fun i ρ S2 => ∃ (es : List (Nat × Nat)) (o5 o6 : Option SV), ρ = [some (.loc t), some g, some (.int way), some (.int n), some (.loc l), o5, o6, o7, o8] ∧ Ah t S0 S2 l es ∧ (∀ e ∈ es, e.1 < n ∧ e.2 < n ∧ e.1 ≠ e.2) ∧ es.length = i)
    ⟨[], o5, o6, rfl, A1, (fun _ h => nomatch h), rfl⟩ (fun _ _ _ _ => trivial) ?_ ?_
  · rintro i x ρ S2 hx ⟨es, p5, p6, rfl, A2, he, hl⟩
    obtain ⟨rfl, hi⟩ := rng_get hx
    refine ⟨_, rfl, _, rfl, hd A2.tape (by omega) (by omega) fun a S3 a0 a1 T3 O3 _ => ?_⟩
    have A3 := A2.draw T3 O3
    refine ⟨_, rfl, ⟨l, _, rfl, A3.at'⟩, ?_⟩
    refine ⟨_, rfl, _, rfl, _, rfl, _, rfl, hd A3.tape (by omega) (by omega) fun b S4 b0 b1 T4 O4 _ => ?_⟩
    have A4 := A3.draw T4 O4
    refine ⟨_, rfl, show (0 : Int) < n by omega, by show 2 ≤ big; decide, ⟨_, A4.at', by rw [List.length_map]; show es.length < 100000; omega, ?_⟩⟩
    have e1 : ((a.toNat : Nat) : Int) = a := Int.toNat_of_nonneg a0
    have m0 : 0 ≤ (a + 1 + b) % n := Int.emod_nonneg _ (by omega)
    have m1 : (a + 1 + b) % n < n := Int.emod_lt_of_pos _ (by omega)
    have e2 : (((a + 1 + b) % n).toNat : Int) = (a + 1 + b) % n := Int.toNat_of_nonneg m0
    have hne : a ≠ (a + 1 + b) % n := by
      by_cases hb : a + 1 + b < n
      · rw [Int.emod_eq_of_lt (by omega) hb]; omega
      · rw [← Int.sub_emod_right, Int.emod_eq_of_lt (by omega) (by omega)]; omega
    have ea := pair_app es (a.toNat, ((a + 1 + b) % n).toNat)
    simp only [e1, e2] at ea
    refine ⟨es ++ [(a.toNat, ((a + 1 + b) % n).toNat)], _, _, rfl, ?_, fun e h => ?_, by rw [List.length_append, hl]; rfl⟩
    · have := A4.put (fs := es ++ [(a.toNat, ((a + 1 + b) % n).toNat)])
      rw [← ea] at this
      exact this
    · rcases List.mem_append.mp h with h | h
      · exact he e h
      · rw [List.mem_singleton.mp h]
        exact ⟨by show a.toNat < n; omega, by show ((a + 1 + b) % n).toNat < n; omega, by show a.toNat ≠ ((a + 1 + b) % n).toNat; omega⟩
  · rintro ρ S2 ⟨es, p5, p6, rfl, A2, he, hl⟩
    rw [rng_len] at hl
    exact q es S2 p5 p6 ⟨he, by omega, hn⟩ A2
noncomputable abbrev PQ (t : Nat) (g : SV) (way : Int) (S0 : Sto) (D : EndsS) : Prop := ∀ (n : Nat) (es : List (Nat × Nat)) (l : Nat) (S' : Sto) (o5 o6 o7 o8 : Option SV), Prs n es → Ah t S0 S' l es → D.nx [some (.loc t), some g, some (.int way), some (.int n), some (.loc l), o5, o6, o7, o8] S'
theorem prs_nil {n : Nat} (h : n ≤ 12) : Prs n [] := ⟨(fun _ h => nomatch h), by simp, h⟩
theorem way3 (hΔ : ∀ f, MonoN (Δ f)) (hd : DrawSp (Δ kd)) {t l n : Nat} {S0 S : Sto} {D : EndsS} {g : SV} {o5 o6 o7 o8 : Option SV} (A : Ah t S0 S l []) (hn : n ≤ 12) (q : PQ t g 3 S0 D) :
    wSt Δ (q5 kd) D [some (.loc t), some g, some (.int 3), some (.int n), some (.loc l), o5, o6, o7, o8] S := by
  have stay := q n [] l S o5 o6 o7 o8 (prs_nil hn) A
  refine ⟨_, rfl, _, rfl, ifT rfl ?_⟩
  refine ⟨_, rfl, _, rfl, ifD (fun h2 => ?_) (fun h2 => stay)⟩
  have h2 : 2 < n := by omega
  refine ⟨_, rfl, n, rfl, ⟨by omega, by omega⟩, ?_⟩
  refine turns_inv (eo_mono hΔ _).2 (ex_mono hΔ _).1 (fun i ys S2 => S2 = S ∧ ys = ((List.range i).map fun j => (j, (j + 1) % n)).map pairS) ⟨rfl, rfl⟩ (fun _ _ _ _ => trivial) ?_ ?_
  · rintro i x ys S2 hx ⟨rfl, rfl⟩
    obtain ⟨rfl, hi⟩ := rng_get hx
    refine ⟨_, rfl, _, rfl, _, rfl, show (0 : Int) < n by omega, by show 2 ≤ big; decide, by simp; show i < 100000; omega, rfl, ?_⟩
    rw [List.range_succ, List.map_append, List.map_append]
    simp [pairS]
  · rintro ys S2 ⟨rfl, rfl⟩
    rw [rng_len]
    refine ⟨_, rfl, _, rfl, hd (A.push (o := .lst (((List.range ((n : Int) - 0).toNat).map fun j => (j, (j + 1) % n)).map pairS))).tape (by omega) (by omega) fun r S3 r0 r1 T3 O3 L3 => ?_⟩
    have A3 := (A.push (o := .lst (((List.range ((n : Int) - 0).toNat).map fun j => (j, (j + 1) % n)).map pairS))).draw T3 O3
    refine ⟨by show 2 ≤ big; decide, by show 1 ≤ big; decide, ?_⟩
    have hS := A.t0
    have hon := A.on.len
    have at1 : S3[S2.length]? = some (.lst (((List.range ((n : Int) - 0).toNat).map fun j => (j, (j + 1) % n)).map pairS)) := O3.keep _ _ (by omega) at_new
    refine ⟨_, _, at_old at1, at_new, by simp; show _ ≤ 100000; omega, ?_⟩
    have en : ((n : Int) - 0).toNat = n := by omega
    rw [en]
    have e1 : ((r.toNat : Nat) : Int) = r := Int.toNat_of_nonneg r0
    have ea := pair_app ((List.range n).map fun j => (j, (j + 1) % n)) (0, r.toNat + 1)
    have e2 : ((r.toNat + 1 : Nat) : Int) = r + 1 := by omega
    simp only [e2] at ea
    refine q n ((List.range n).map (fun j => (j, (j + 1) % n)) ++ [(0, r.toNat + 1)]) _ _ _ _ _ _ ⟨fun e h => ?_, by simp; omega, hn⟩ ⟨A3.tape.push.push, A3.on.push.push, ?_, ?_, A.t0⟩
    · rcases List.mem_append.mp h with h | h
      · obtain ⟨j, hj, rfl⟩ := List.mem_map.mp h
        have hj := List.mem_range.mp hj
        refine ⟨hj, Nat.mod_lt _ (by omega), ?_⟩
        by_cases hz : j + 1 < n
        · show j ≠ (j + 1) % n; rw [Nat.mod_eq_of_lt hz]; omega
        · have : j + 1 = n := by omega
          show j ≠ (j + 1) % n; rw [this, Nat.mod_self]; omega
      · rw [List.mem_singleton.mp h]
        exact ⟨by show 0 < n; omega, by show r.toNat + 1 < n; omega, by show 0 ≠ r.toNat + 1; omega⟩
    · rw [← ea]; exact at_new
    · rw [List.length_append]; have := A3.on.len; omega
theorem way4 (hΔ : ∀ f, MonoN (Δ f)) {t l n : Nat} {S0 S : Sto} {D : EndsS} {g : SV} {o5 o6 o7 o8 : Option SV} (A : Ah t S0 S l []) (hn : n ≤ 12) (q : PQ t g 4 S0 D) :
    wSt Δ (q6 kd) D [some (.loc t), some g, some (.int 4), some (.int n), some (.loc l), o5, o6, o7, o8] S := by
  have stay := q n [] l S o5 o6 o7 o8 (prs_nil hn) A
  refine ⟨_, rfl, _, rfl, ifT rfl ?_⟩
  refine ⟨_, rfl, _, rfl, ifD (fun h2 => ?_) (fun h2 => stay)⟩
  have h2 : 1 < n := by omega
  refine ⟨_, rfl, 1, n, rfl, rfl, ⟨by decide, by decide, by omega, by omega⟩, ?_⟩
  refine turns_inv (eo_mono hΔ _).2 (ex_mono hΔ _).1 (fun i ys S2 => S2 = S ∧ ys = ((List.range i).map fun j => (0, j + 1)).map pairS) ⟨rfl, rfl⟩ (fun _ _ _ _ => trivial) ?_ ?_
  · rintro i x ys S2 hx ⟨rfl, rfl⟩
    obtain ⟨rfl, hi⟩ := rng_get hx
    refine ⟨_, rfl, by show 2 ≤ big; decide, by simp; show i < 100000; omega, rfl, ?_⟩
    rw [List.range_succ, List.map_append, List.map_append]
    simp [pairS, Int.add_comm]
  · rintro ys S2 ⟨rfl, rfl⟩
    rw [rng_len]
    refine q n _ _ _ _ _ _ _ ⟨fun e h => ?_, by simp; omega, hn⟩ ⟨A.tape.push, A.on.push, at_new, A.on.len, A.t0⟩
    obtain ⟨j, hj, rfl⟩ := List.mem_map.mp h
    have hj := List.mem_range.mp hj
    exact ⟨by show 0 < n; omega, by show j + 1 < n; omega, by show 0 ≠ j + 1; omega⟩
theorem Ah.ext {t l j : Nat} {S0 S : Sto} {es fs : List (Nat × Nat)} (h : Ah t S0 S l es) (hj : S[j]? = some (.lst (fs.map pairS))) : Ah t S0 (S.set l (.lst (es.map pairS ++ fs.map pairS))) l (es ++ fs) := by
  rw [← List.map_append]; exact h.put
theorem way5 (hΔ : ∀ f, MonoN (Δ f)) {t l n : Nat} {b : Bool} {S0 S : Sto} {D : EndsS} {o5 o6 o7 o8 : Option SV} (A : Ah t S0 S l []) (hn : n ≤ 12) (q : PQ t (.bl b) 5 S0 D) :
    wSt Δ (q7 kd) D [some (.loc t), some (.bl b), some (.int 5), some (.int n), some (.loc l), o5, o6, o7, o8] S := by
  refine ⟨_, rfl, _, rfl, ifT rfl ?_⟩
  obtain ⟨m, em, hm⟩ : ∃ m : Nat, (if (5 + (if b = true then (1 : Int) else 0)) < n then (5 + (if b = true then (1 : Int) else 0)) else (n : Int)) = m ∧ m ≤ 6 := by
    cases b
    · by_cases h : (5 : Int) < n
      · exact ⟨5, by simp [h], by omega⟩
      · exact ⟨n, by simp [h], by omega⟩
    · by_cases h : (6 : Int) < n
      · exact ⟨6, by simp [h], by omega⟩
      · exact ⟨n, by simp [h], by omega⟩
  suffices key : ∀ z : Int, z = m → wSs Δ [q7l kd] D [some (.loc t), some (.bl b), some (.int 5), some (.int z), some (.loc l), o5, o6, o7, o8] S from ⟨_, rfl, _, rfl, key _ em⟩
  rintro _ rfl
  refine ⟨_, rfl, m, rfl, ⟨by omega, by omega⟩, ?_⟩
  refine loop_inv (ss_mono hΔ _) (fun i ρ S2 => ∃ (es : List (Nat × Nat)) (o7 : Option SV), ρ = [some (.loc t), some (.bl b), some (.int 5), some (.int m), some (.loc l), o5, o6, o7, o8] ∧ Ah t S0 S2 l es ∧ (∀ e ∈ es, e.1 < e.2 ∧ e.2 < i) ∧ es.length ≤ i * 6)
    ⟨[], o7, rfl, A, (fun _ h => nomatch h), by simp⟩ (fun _ _ _ _ => trivial) ?_ ?_
  · rintro i x ρ S2 hx ⟨es, p7, rfl, A2, he, hl⟩
    obtain ⟨rfl, hi⟩ := rng_get hx
    refine ⟨_, rfl, ⟨l, _, rfl, A2.at'⟩, _, rfl, 0 + (i : Int), rfl, ⟨by omega, by omega⟩, ?_⟩
    refine turns_inv (eo_mono hΔ _).2 (ex_mono hΔ _).1 (fun j ys S3 => S3 = S2 ∧ ys = ((List.range j).map fun j => (j, i)).map pairS) ⟨rfl, rfl⟩ (fun _ _ _ _ => trivial) ?_ ?_
    · rintro j x ys S3 hx ⟨rfl, rfl⟩
      obtain ⟨rfl, hj⟩ := rng_get hx
      refine ⟨_, rfl, _, rfl, by show 2 ≤ big; decide, by simp; show j < 100000; omega, rfl, ?_⟩
      rw [List.range_succ, List.map_append, List.map_append]
      simp [pairS]
    · rintro ys S3 ⟨rfl, rfl⟩
      rw [rng_len]
      have en : (0 + (i : Int) - 0).toNat = i := by omega
      rw [en]
      have A3 := A2.push (o := .lst (((List.range i).map fun j => (j, i)).map pairS))
      refine ⟨_, _, A3.at', at_new, by simp; show _ ≤ 100000; omega, ?_⟩
      refine ⟨es ++ (List.range i).map (fun j => (j, i)), _, rfl, A3.ext (j := S3.length) at_new, fun e h => ?_, by simp; omega⟩
      rcases List.mem_append.mp h with h | h
      · have := he e h; omega
      · obtain ⟨j, hj, rfl⟩ := List.mem_map.mp h
        have hj := List.mem_range.mp hj
        exact ⟨hj, by show i < i + 1; omega⟩
  · rintro ρ S2 ⟨es, p7, rfl, A2, he, hl⟩
    rw [rng_len] at he hl
    refine q m es l S2 _ _ _ _ ⟨fun e h => ?_, by omega, by omega⟩ A2
    have := he e h
    omega
theorem way6 (hΔ : ∀ f, MonoN (Δ f)) (hd : DrawSp (Δ kd)) {t l n : Nat} {S0 S : Sto} {D : EndsS} {g : SV} {o5 o6 o7 o8 : Option SV} (A : Ah t S0 S l []) (hn : n ≤ 12) (q : PQ t g 6 S0 D) :
    wSt Δ (q8 kd) D [some (.loc t), some g, some (.int 6), some (.int n), some (.loc l), o5, o6, o7, o8] S := by
  refine ⟨_, rfl, _, rfl, ifT rfl ?_⟩
  obtain ⟨s, es', hs⟩ : ∃ s : Nat, 1 + (n : Int) / 2 = s ∧ s = 1 + n / 2 := ⟨1 + n / 2, by omega, rfl⟩
  suffices key : ∀ z : Int, z = s → wSs Δ [q8l kd] D [some (.loc t), some g, some (.int 6), some (.int n), some (.loc l), o5, o6, o7, some (.int z)] S from ⟨_, rfl, ⟨by decide, by decide⟩, key _ es'⟩
  rintro _ rfl
  refine ⟨_, rfl, s, rfl, ⟨by omega, by omega⟩, ?_⟩
  refine loop_inv (ss_mono hΔ _) (fun i ρ S2 => ∃ (es : List (Nat × Nat)) (o7 : Option SV), ρ = [some (.loc t), some g, some (.int 6), some (.int n), some (.loc l), o5, o6, o7, some (.int s)] ∧ Ah t S0 S2 l es ∧ (∀ e ∈ es, e.1 < i ∧ s ≤ e.2 ∧ e.2 < n) ∧ es.length ≤ i * (n - s))
    ⟨[], o7, rfl, A, (fun _ h => nomatch h), by simp⟩ (fun _ _ _ _ => trivial) ?_ ?_
  · rintro i x ρ S2 hx ⟨es, p7, rfl, A2, he, hl⟩
    obtain ⟨rfl, hi⟩ := rng_get hx
    refine ⟨_, rfl, ⟨l, _, rfl, A2.at'⟩, _, rfl, _, rfl, s, n, rfl, rfl, ⟨by omega, by omega, by omega, by omega⟩, ?_⟩
    refine turns_inv (eo_mono hΔ _).2 (ex_mono hΔ _).1 (fun j ys S3 => Ah t S0 S3 l es ∧ ∃ fs : List (Nat × Nat), ys = fs.map pairS ∧ (∀ e ∈ fs, e.1 = i ∧ s ≤ e.2 ∧ e.2 < n) ∧ fs.length ≤ j) ⟨A2, [], rfl, (fun _ h => nomatch h), Nat.le_refl _⟩ (fun _ _ _ _ => trivial) ?_ ?_
    · rintro j x ys S3 hx ⟨A3, fs, rfl, hf, fl⟩
      obtain ⟨rfl, hj⟩ := rng_get hx
      refine ⟨_, rfl, hd A3.tape (by decide) (by decide) fun r S4 r0 r1 T4 O4 _ => ⟨_, rfl, ?_⟩⟩
      have A4 := A3.draw T4 O4
      refine ifD (fun _ => ?_) (fun _ => ⟨A4, fs, rfl, hf, by omega⟩)
      refine ⟨_, rfl, _, rfl, by show 2 ≤ big; decide, by rw [List.length_map]; show _ < 100000; omega, A4, fs ++ [(i, s + j)], ?_, fun e h => ?_, by simp; omega⟩
      · rw [List.map_append]; simp [pairS]
      · rcases List.mem_append.mp h with h | h
        · exact hf e h
        · rw [List.mem_singleton.mp h]
          exact ⟨rfl, by show s ≤ s + j; omega, by show s + j < n; omega⟩
    · rintro ys S3 ⟨A3, fs, rfl, hf, fl⟩
      rw [rng_len] at fl
      have A4 := A3.push (o := .lst (fs.map pairS))
      have hx6 : i * (n - s) ≤ 6 * 12 := Nat.mul_le_mul (by omega) (by omega)
      refine ⟨_, _, A4.at', at_new, by simp; show _ ≤ 100000; omega, ?_⟩
      refine ⟨es ++ fs, _, rfl, A4.ext (j := S3.length) at_new, fun e h => ?_, ?_⟩
      · rcases List.mem_append.mp h with h | h
        · have := he e h; exact ⟨by omega, this.2⟩
        · have := hf e h; exact ⟨by omega, this.2⟩
      · rw [List.length_append, Nat.succ_mul]; omega
  · rintro ρ S2 ⟨es, p7, rfl, A2, he, hl⟩
    rw [rng_len] at he hl
    have e0 : ((s : Int) - 0).toNat = s := by omega
    rw [e0] at he hl
    have h35 : s * (n - s) ≤ 7 * 5 := Nat.mul_le_mul (by omega) (by omega)
    refine q n es l S2 _ _ _ _ ⟨fun e h => ?_, by omega, hn⟩ A2
    have := he e h
    omega
theorem way7 (hΔ : ∀ f, MonoN (Δ f)) (hd : DrawSp (Δ kd)) {t l n : Nat} {S0 S : Sto} {D : EndsS} {g : SV} {o5 o6 o7 o8 : Option SV} (A : Ah t S0 S l []) (hn : n ≤ 12) (q : PQ t g 7 S0 D) :
    wSt Δ (q9 kd) D [some (.loc t), some g, some (.int 7), some (.int n), some (.loc l), o5, o6, o7, o8] S := by
  refine ⟨_, rfl, _, rfl, ifT rfl ?_⟩
  obtain ⟨m, em, hm⟩ : ∃ m : Nat, 3 + (n : Int) / 3 = m ∧ m = 3 + n / 3 := ⟨3 + n / 3, by omega, rfl⟩
  suffices key : ∀ z : Int, z = m → wSs Δ [q9l kd] D [some (.loc t), some g, some (.int 7), some (.int z), some (.loc l), o5, o6, o7, o8] S from ⟨_, rfl, ⟨by decide, by decide⟩, key _ em⟩
  rintro _ rfl
  refine ⟨3, rfl, ⟨by decide, by decide⟩, ?_⟩
  refine loop_inv (ss_mono hΔ _) (fun i ρ S2 => ∃ (es : List (Nat × Nat)) (o7 : Option SV), ρ = [some (.loc t), some g, some (.int 7), some (.int m), some (.loc l), o5, o6, o7, o8] ∧ Ah t S0 S2 l es ∧ (∀ e ∈ es, e.1 < 3 ∧ e.2 < 3 ∧ e.1 ≠ e.2) ∧ es.length ≤ i * 3)
    ⟨[], o7, rfl, A, (fun _ h => nomatch h), by simp⟩ (fun _ _ _ _ => trivial) ?_ ?_
  · rintro i x ρ S2 hx ⟨es, p7, rfl, A2, he, hl⟩
    obtain ⟨rfl, hi⟩ := rng_get hx
    refine ⟨_, rfl, ⟨l, _, rfl, A2.at'⟩, _, rfl, _, rfl, show (0 : Int) < 3 by decide, by show 2 ≤ big; decide, by show 1 ≤ big; decide, ?_⟩
    have A3 := A2.push (o := .lst [.tup [.int (0 + (i : Int)), .int ((0 + (i : Int) + 1) % 3)]])
    refine ⟨_, rfl, hd A3.tape (by decide) (by decide) fun r S4 r0 r1 T4 O4 L4 => ?_⟩
    have A4 := A3.draw T4 O4
    have ht := A2.t0
    have hlen := A2.on.len
    have at1 : S4[S2.length]? = some (.lst [.tup [.int (0 + (i : Int)), .int ((0 + (i : Int) + 1) % 3)]]) := O4.keep _ _ (by omega) at_new
    refine ⟨_, at1, ⟨by omega, by omega⟩, by simp; show _ ≤ 100000; omega, ?_⟩
    have e1 : (List.replicate (1 + r).toNat [SV.tup [.int (0 + (i : Int)), .int ((0 + (i : Int) + 1) % 3)]]).flatten = (List.replicate (1 + r).toNat (i, (i + 1) % 3)).map pairS := by
      induction (1 + r).toNat with
      | zero => rfl
      | succ k ih => rw [List.replicate_succ, List.flatten_cons, ih, List.replicate_succ]; simp [pairS]
    rw [e1]
    have A5 := A4.push (o := .lst ((List.replicate (1 + r).toNat (i, (i + 1) % 3)).map pairS))
    refine ⟨_, _, A5.at', at_new, by simp; show _ ≤ 100000; omega, ?_⟩
    refine ⟨es ++ List.replicate (1 + r).toNat (i, (i + 1) % 3), _, rfl, A5.ext (j := S4.length) at_new, fun e h => ?_, by simp; omega⟩
    rcases List.mem_append.mp h with h | h
    · exact he e h
    · rw [List.eq_of_mem_replicate h]
      exact ⟨by show i < 3; omega, by show (i + 1) % 3 < 3; omega, by show i ≠ (i + 1) % 3; omega⟩
  · rintro ρ S2 ⟨es, p7, rfl, A2, he, hl⟩
    rw [rng_len] at hl
    refine q m es l S2 _ _ _ _ ⟨fun e h => ?_, by omega, by omega⟩ A2
    have := he e h
    omega
theorem skip4 {t l : Nat} {way n : Int} {S : Sto} {D : EndsS} {g : SV} {o5 o6 o7 o8 : Option SV} (h : ¬ way < 3) (q : D.nx [some (.loc t), some g, some (.int way), some (.int n), some (.loc l), o5, o6, o7, o8] S) : wSt Δ (q4 kd) D [some (.loc t), some g, some (.int way), some (.int n), some (.loc l), o5, o6, o7, o8] S := ⟨_, rfl, _, rfl, ifD (fun z => absurd z h) (fun _ => ifF rfl q)⟩
theorem skip5 {t l : Nat} {way n : Int} {S : Sto} {D : EndsS} {g : SV} {o5 o6 o7 o8 : Option SV} (h : ¬ way = 3) (q : D.nx [some (.loc t), some g, some (.int way), some (.int n), some (.loc l), o5, o6, o7, o8] S) : wSt Δ (q5 kd) D [some (.loc t), some g, some (.int way), some (.int n), some (.loc l), o5, o6, o7, o8] S := ⟨_, rfl, _, rfl, ifD (fun z => absurd z h) (fun _ => ifF rfl q)⟩
theorem skip6 {t l : Nat} {way n : Int} {S : Sto} {D : EndsS} {g : SV} {o5 o6 o7 o8 : Option SV} (h : ¬ way = 4) (q : D.nx [some (.loc t), some g, some (.int way), some (.int n), some (.loc l), o5, o6, o7, o8] S) : wSt Δ (q6 kd) D [some (.loc t), some g, some (.int way), some (.int n), some (.loc l), o5, o6, o7, o8] S := ⟨_, rfl, _, rfl, ifD (fun z => absurd z h) (fun _ => ifF rfl q)⟩
theorem skip7 {t l : Nat} {way n : Int} {S : Sto} {D : EndsS} {g : SV} {o5 o6 o7 o8 : Option SV} (h : ¬ way = 5) (q : D.nx [some (.loc t), some g, some (.int way), some (.int n), some (.loc l), o5, o6, o7, o8] S) : wSt Δ (q7 kd) D [some (.loc t), some g, some (.int way), some (.int n), some (.loc l), o5, o6, o7, o8] S := ⟨_, rfl, _, rfl, ifD (fun z => absurd z h) (fun _ => q)⟩
theorem skip8 {t l : Nat} {way n : Int} {S : Sto} {D : EndsS} {g : SV} {o5 o6 o7 o8 : Option SV} (h : ¬ way = 6) (q : D.nx [some (.loc t), some g, some (.int way), some (.int n), some (.loc l), o5, o6, o7, o8] S) : wSt Δ (q8 kd) D [some (.loc t), some g, some (.int way), some (.int n), some (.loc l), o5, o6, o7, o8] S := ⟨_, rfl, _, rfl, ifD (fun z => absurd z h) (fun _ => q)⟩
theorem skip9 {t l : Nat} {way n : Int} {S : Sto} {D : EndsS} {g : SV} {o5 o6 o7 o8 : Option SV} (h : ¬ way = 7) (q : D.nx [some (.loc t), some g, some (.int way), some (.int n), some (.loc l), o5, o6, o7, o8] S) : wSt Δ (q9 kd) D [some (.loc t), some g, some (.int way), some (.int n), some (.loc l), o5, o6, o7, o8] S := ⟨_, rfl, _, rfl, ifD (fun z => absurd z h) (fun _ => q)⟩
theorem rest_ok (hΔ : ∀ f, MonoN (Δ f)) (hd : DrawSp (Δ kd)) {t l n : Nat} {b : Bool} {w : Int} {S0 S : Sto} {Q : QE} (w0 : 0 ≤ w) (w1 : w < 8) (A : Ah t S0 S l []) (hn : n ≤ 12)
    (q : ∀ (n : Nat) (es : List (Nat × Nat)) (l : Nat) (S' : Sto), Prs n es → Ah t S0 S' l es → Q (.tup [.int n, .loc l]) S') :
    wSs Δ [q4 kd, q5 kd, q6 kd, q7 kd, q8 kd, q9 kd, q10 kd] (endsOf Q) [some (.loc t), some (.bl b), some (.int w), some (.int n), some (.loc l), none, none, none, none] S := by
  have fin : ∀ (n : Nat) (es : List (Nat × Nat)) (l : Nat) (S' : Sto) (o5 o6 o7 o8 : Option SV), Prs n es → Ah t S0 S' l es → wSs Δ [q10 kd] (endsOf Q) [some (.loc t), some (.bl b), some (.int w), some (.int n), some (.loc l), o5, o6, o7, o8] S' := fun n es l S' o5 o6 o7 o8 P A' => ⟨_, rfl, _, rfl, by show 2 ≤ big; decide, q n es l S' P A'⟩
  have nil := prs_nil hn
  by_cases h : w < 3
  · exact way0 hΔ hd A hn fun es S' o5 o6 P A' => skip5 (by omega) (skip6 (kd := kd) (by omega) (skip7 (kd := kd) (by omega) (skip8 (by omega) (skip9 (by omega) (fin n es l S' _ _ _ _ P A')))))
  refine skip4 h ?_
  have : w = 3 ∨ w = 4 ∨ w = 5 ∨ w = 6 ∨ w = 7 := by omega
  rcases this with rfl | rfl | rfl | rfl | rfl
  · exact way3 hΔ hd A hn fun n es l S' o5 o6 o7 o8 P A' => skip6 (kd := kd) (by omega) (skip7 (kd := kd) (by omega) (skip8 (by omega) (skip9 (by omega) (fin n es l S' _ _ _ _ P A'))))
  · exact skip5 (by omega) (way4 (kd := kd) hΔ A hn fun n es l S' o5 o6 o7 o8 P A' => skip7 (kd := kd) (by omega) (skip8 (by omega) (skip9 (by omega) (fin n es l S' _ _ _ _ P A'))))
  · exact skip5 (by omega) (skip6 (kd := kd) (by omega) (way5 (kd := kd) hΔ A hn fun n es l S' o5 o6 o7 o8 P A' => skip8 (by omega) (skip9 (by omega) (fin n es l S' _ _ _ _ P A'))))
  · exact skip5 (by omega) (skip6 (kd := kd) (by omega) (skip7 (kd := kd) (by omega) (way6 hΔ hd A hn fun n es l S' o5 o6 o7 o8 P A' => skip9 (by omega) (fin n es l S' _ _ _ _ P A'))))
  · exact skip5 (by omega) (skip6 (kd := kd) (by omega) (skip7 (kd := kd) (by omega) (skip8 (by omega) (way7 hΔ hd A hn fun n es l S' o5 o6 o7 o8 P A' => fin n es l S' _ _ _ _ P A'))))
theorem pairs_sp (hΔ : ∀ f, MonoN (Δ f)) (hd : DrawSp (Δ kd)) {D : Df} (hb : D.body = bPairs kd) (hN : D.N.length = 9) (hp : D.ps.length = 2) : PairsSp (wDef Δ D) := by
  intro t g S Q T q
  unfold wDef
  rw [hb, hN]
  refine ⟨hp.symm, ?_⟩
  have t0 := T.lt
  refine ⟨_, rfl, hd T (by decide) (by decide) fun w S1 w0 w1 T1 O1 _ => ?_⟩
  refine ⟨_, rfl, hd T1 (by decide) (by decide) fun r1 S2 a0 a1 T2 O2 _ => ⟨_, rfl, hd T2 (by decide) (by decide) fun r2 S3 b0 b1 T3 O3 _ => ⟨by show 2 ≤ big; decide, _, rfl, _, (if g = true then .int (7 + r2) else .int r1), seq_loc at_new, ?_⟩⟩⟩
  have O := ((O1.trans O2).trans O3).push (o := .lst [.int r1, .int (7 + r2)])
  have key : ∀ (z : Int) (n : Nat), z = n → n ≤ 12 → wSs Δ [q3 kd, q4 kd, q5 kd, q6 kd, q7 kd, q8 kd, q9 kd, q10 kd] (endsOf Q) [some (.loc t), some (.bl g), some (.int w), some (.int z), none, none, none, none, none] (S3 ++ [SO.lst [.int r1, .int (7 + r2)]]) := by
    rintro _ n rfl hn
    refine ⟨by show 0 ≤ big; decide, ?_⟩
    have A : Ah t S ((S3 ++ [SO.lst [.int r1, .int (7 + r2)]]) ++ [SO.lst []]) (S3 ++ [SO.lst [.int r1, .int (7 + r2)]]).length [] := ⟨T3.push.push, O.push, at_new, O.len, t0⟩
    have r := rest_ok (b := g) hΔ hd w0 w1 A hn (Q := Q) fun n es l S' P A => q n es l S' P A.at' A.new A.tape A.on
    exact r
  cases g with
  | false => exact ⟨rfl, key r1 r1.toNat (by omega) (by omega)⟩
  | true => exact ⟨rfl, key (7 + r2) (7 + r2).toNat (by omega) (by omega)⟩
end
end Rf
set_option Elab.async false
set_option linter.all false
set_option maxRecDepth 100000
set_option maxHeartbeats 1000000
namespace Rf
open PySem L2
noncomputable def u1 (kd kp : Nat) : Stm := (.asg (.tup (.cons (.nm 2) (.cons (.nm 3) .nil))) (.call kp (.cons (.var 0) (.cons (.var 1) .nil))))
noncomputable def u2 (kd kp : Nat) : Stm := (.iff (.cmp .Eq (.var 3) (.lst .nil)) [(.asg (.tup (.cons (.nm 2) (.cons (.nm 3) .nil))) (.call kp (.cons (.var 0) (.cons (.var 1) .nil))))] [])
noncomputable def u3 (kd kp : Nat) : Stm := (.iff (.and (.cmp .NotEq (.var 3) (.lst .nil)) (.cmp .Eq (.call kd (.cons (.var 0) (.cons (.c (.int 4)) .nil))) (.c (.int 0)))) [(.asg (.nm 3) (.op .Add (.var 3) (.comp ["_law_turn"] ["_law_pairs", "_law_tape_here"] [3, 0] (.nm 0) (.rng1 (.op .Add (.c (.int 1)) (.call kd (.cons (.var 0) (.cons (.c (.int 3)) .nil))))) .no (.ix (.var 1) (.call kd (.cons (.var 2) (.cons (.bi .len (.cons (.var 1) .nil)) .nil)))))))] [])
noncomputable def u4 (kd kp : Nat) : Stm := (.asg (.nm 4) (.lst .nil))
noncomputable def u5 (kd kp : Nat) : Stm := (.loop (.tup (.cons (.nm 5) (.cons (.nm 6) .nil))) (.seq (.var 3)) [(.expr (.mt .insert (.var 4) (.cons (.call kd (.cons (.var 0) (.cons (.op .Add (.bi .len (.cons (.var 4) .nil)) (.c (.int 1))) .nil))) (.cons (.tup (.cons (.bi .min (.cons (.var 5) (.cons (.var 6) .nil))) (.cons (.bi .max (.cons (.var 5) (.cons (.var 6) .nil))) .nil))) .nil))))])
noncomputable def u6 (kd kp : Nat) : Stm := (.ret (.tup (.cons (.var 2) (.cons (.bi .tuple (.cons (.var 4) .nil)) .nil))))
noncomputable def bWeb (kd kp : Nat) : List Stm := [u1 kd kp, u2 kd kp, u3 kd kp, u4 kd kp, u5 kd kp, u6 kd kp]
noncomputable def webS (n : Nat) (es : List (Nat × Nat)) : SV := .tup [.int n, .tup (es.map pairS)]
structure Web (n : Nat) (es : List (Nat × Nat)) : Prop where
  en : ∀ e ∈ es, e.1 < e.2 ∧ e.2 < n
  len : es.length ≤ 61
  few : n ≤ 12
noncomputable def WebSp (s : Sn) : Prop := ∀ {t : Nat} {g : Bool} {S : Sto} {Q : QE}, TapeS S t → (∀ (n : Nat) (es : List (Nat × Nat)) (S' : Sto), Web n es → TapeS S' t → On t S S' → Q (webS n es) S') → s [.loc t, .bl g] S Q
theorem eqSs_nil {xs : List SV} : eqSs xs [] = xs.isEmpty := by cases xs <;> rfl
section
variable {Δ : Nat → Sn} {kd kp : Nat}
theorem web_ties (hΔ : ∀ f, MonoN (Δ f)) (hd : DrawSp (Δ kd)) {t n l : Nat} {g : SV} {S0 S : Sto} {es : List (Nat × Nat)} {Q : QE} {o4 o5 o6 : Option SV} (he : ∀ e ∈ es, e.1 < n ∧ e.2 < n ∧ e.1 ≠ e.2) (hl : es.length ≤ 61) (hn : n ≤ 12) (A : Ah t S0 S l es)
    (q : ∀ (es : List (Nat × Nat)) (S' : Sto), Web n es → TapeS S' t → On t S0 S' → Q (webS n es) S') : wSs Δ [u4 kd kp, u5 kd kp, u6 kd kp] (endsOf Q) [some (.loc t), some g, some (.int n), some (.loc l), o4, o5, o6] S := by
  refine ⟨by show 0 ≤ big; decide, ?_⟩
  have hlt := lt_of A.at'
  have htl := A.tape.lt
  refine ⟨_, rfl, _, seq_loc A.push.at', ?_⟩
  refine loop_inv (ss_mono hΔ _) (fun i ρ S2 => ∃ (fs : List (Nat × Nat)) (o5 o6 : Option SV), ρ = [some (.loc t), some g, some (.int n), some (.loc l), some (.loc S.length), o5, o6] ∧ Ah t S0 S2 S.length fs ∧ S2[l]? = some (.lst (es.map pairS)) ∧ (∀ e ∈ fs, e.1 < e.2 ∧ e.2 < n) ∧ fs.length = i)
    ⟨[], o5, o6, rfl, ⟨A.tape.push, A.on.push, at_new, A.on.len, A.t0⟩, A.push.at', (fun _ h => nomatch h), rfl⟩ (fun i ρ S2 h => ?_) ?_ ?_
  · obtain ⟨fs, _, _, _, _, h2, _⟩ := h
    exact h2.trans A.push.at'.symm
  · rintro i x ρ S2 hx ⟨fs, p5, p6, rfl, A2, h2, hf, fl⟩
    rw [List.getElem?_map] at hx
    cases hei : es[i]? with
    | none => rw [hei] at hx; cases hx
    | some e =>
      rw [hei] at hx
      have hx : pairS e = x := Option.some.inj hx
      subst hx
      have hil := (List.getElem?_eq_some_iff.mp hei).1
      have hee := he e (List.mem_of_getElem? hei)
      refine ⟨_, rfl, ⟨_, _, rfl, A2.at'⟩, _, rfl, _, rfl, _, seq_loc A2.at', hd A2.tape (by omega) (by rw [List.length_map]; omega) fun r S3 r0 r1 T3 O3 _ => ?_⟩
      have A3 := A2.draw T3 O3
      rw [List.length_map] at r1
      refine ⟨_, rfl, _, rfl, _, rfl, _, rfl, by show 2 ≤ big; decide, ?_⟩
      refine ⟨_, A3.at', ⟨r0, by rw [List.length_map]; omega⟩, by rw [List.length_map]; show _ < 100000; omega, ?_⟩
      have key : ∀ (a b : Nat) (z1 z2 : Int), z1 = a → z2 = b → a < b → b < n → ∃ (fs' : List (Nat × Nat)) (o5 o6 : Option SV), ([some (.loc t), some g, some (.int n), some (.loc l), some (.loc S.length), some (.int e.1), some (.int e.2)] : EnvS) = [some (.loc t), some g, some (.int n), some (.loc l), some (.loc S.length), o5, o6] ∧ Ah t S0 (S3.set S.length (.lst ((fs.map pairS).take r.toNat ++ .tup [.int z1, .int z2] :: (fs.map pairS).drop r.toNat))) S.length fs' ∧ (S3.set S.length (.lst ((fs.map pairS).take r.toNat ++ .tup [.int z1, .int z2] :: (fs.map pairS).drop r.toNat)))[l]? = some (.lst (es.map pairS)) ∧ (∀ e ∈ fs', e.1 < e.2 ∧ e.2 < n) ∧ fs'.length = i + 1 := by
        rintro a b _ _ rfl rfl hab hbn
        have e1 : (fs.map pairS).take r.toNat ++ SV.tup [.int a, .int b] :: (fs.map pairS).drop r.toNat = (fs.take r.toNat ++ (a, b) :: fs.drop r.toNat).map pairS := by
          rw [List.map_append, List.map_cons, List.map_take, List.map_drop]; rfl
        rw [e1]
        refine ⟨_, _, _, rfl, A3.put, ?_, fun e' h => ?_, ?_⟩
        · rw [at_ne (by omega)]; exact O3.keep _ _ A.ne h2
        · rcases List.mem_append.mp h with h | h
          · exact hf e' (List.mem_of_mem_take h)
          · rcases List.mem_cons.mp h with h | h
            · rw [h]; exact ⟨hab, hbn⟩
            · exact hf e' (List.mem_of_mem_drop h)
        · rw [List.length_append, List.length_cons, List.length_take, List.length_drop]; omega
      by_cases hc : e.1 < e.2
      · exact key e.1 e.2 _ _ (by rw [if_neg (by omega)]) (by rw [if_pos (by omega)]) hc hee.2.1
      · exact key e.2 e.1 _ _ (by rw [if_pos (by omega)]) (by rw [if_neg (by omega)]) (by omega) hee.1
  · rintro ρ S2 ⟨fs, p5, p6, rfl, A2, h2, hf, fl⟩
    rw [List.length_map] at fl
    exact ⟨_, rfl, _, rfl, _, seq_loc A2.at', by show 2 ≤ big; decide, q fs S2 ⟨hf, by omega, hn⟩ A2.tape A2.on⟩
theorem web_more (hΔ : ∀ f, MonoN (Δ f)) (hd : DrawSp (Δ kd)) {t n l : Nat} {g : SV} {S0 S : Sto} {es : List (Nat × Nat)} {Q : QE} {o4 o5 o6 : Option SV} (P : Prs n es) (A : Ah t S0 S l es)
    (q : ∀ (es : List (Nat × Nat)) (S' : Sto), Web n es → TapeS S' t → On t S0 S' → Q (webS n es) S') : wSs Δ [u3 kd kp, u4 kd kp, u5 kd kp, u6 kd kp] (endsOf Q) [some (.loc t), some g, some (.int n), some (.loc l), o4, o5, o6] S := by
  refine ⟨_, rfl, by show 0 ≤ big; decide, ?_⟩
  have A1 := A.push (o := SO.lst [])
  refine ⟨_, _, A1.at', at_new, .inr (.inr rfl), _, rfl, ?_⟩
  rw [eqSs_nil]
  refine ifB (fun h1 => ?_) (fun h1 => ifF rfl (web_ties hΔ hd P.en (by have := P.len; omega) P.few A1 q))
  have hpos : 0 < es.length := by
    cases es with
    | nil => cases h1
    | cons _ _ => simp
  refine ⟨_, rfl, hd A1.tape (by decide) (by decide) fun r S2 r0 r1 T2 O2 _ => ⟨_, rfl, ?_⟩⟩
  have A2 := A1.draw T2 O2
  refine ifD (fun _ => ?_) (fun _ => web_ties hΔ hd P.en (by have := P.len; omega) P.few A2 q)
  refine ⟨_, rfl, _, rfl, hd A2.tape (by decide) (by decide) fun r3 S3 a0 a1 T3 O3 _ => ⟨_, rfl, ⟨by omega, by omega⟩, ?_⟩⟩
  have A3 := A2.draw T3 O3
  refine turns_inv (eo_mono hΔ _).2 (ex_mono hΔ _).1 (fun i ys S4 => Ah t S0 S4 l es ∧ ∃ fs : List (Nat × Nat), ys = fs.map pairS ∧ (∀ e ∈ fs, e ∈ es) ∧ fs.length = i) ⟨A3, [], rfl, (fun _ h => nomatch h), rfl⟩ (fun _ _ _ _ => trivial) ?_ ?_
  · rintro i x ys S4 hx ⟨A4, fs, rfl, hf, fl⟩
    obtain ⟨rfl, hi⟩ := rng_get hx
    refine ⟨_, rfl, _, rfl, _, rfl, _, seq_loc A4.at', hd A4.tape (by rw [List.length_map]; omega) (by rw [List.length_map]; have := P.len; omega) fun r5 S5 b0 b1 T5 O5 _ => ?_⟩
    have A5 := A4.draw T5 O5
    rw [List.length_map] at b1
    have hr : r5.toNat < es.length := by omega
    refine ⟨_, pairS es[r5.toNat], seq_loc A5.at', ?_, by rw [List.length_map]; show _ < 100000; omega, A5, fs ++ [es[r5.toNat]], ?_, fun e h => ?_, by simp [fl]⟩
    · have := atI_nat (xs := es.map pairS) (j := r5.toNat) (v := pairS es[r5.toNat]) (by rw [List.getElem?_map, List.getElem?_eq_getElem hr]; rfl)
      rwa [Int.toNat_of_nonneg b0] at this
    · rw [List.map_append]; rfl
    · rcases List.mem_append.mp h with h | h
      · exact hf e h
      · rw [List.mem_singleton.mp h]; exact List.getElem_mem hr
  · rintro ys S4 ⟨A4, fs, rfl, hf, fl⟩
    rw [rng_len] at fl
    have A5 := A4.push (o := .lst (fs.map pairS))
    have hPl := P.len
    refine ⟨_, _, A5.at', at_new, by simp; show _ ≤ 100000; omega, ?_⟩
    rw [← List.map_append]
    refine web_ties hΔ hd (es := es ++ fs) (fun e h => ?_) (by rw [List.length_append]; omega) P.few ⟨A5.tape.push, A5.on.push, at_new, ?_, A.t0⟩ q
    · rcases List.mem_append.mp h with h | h
      · exact P.en e h
      · exact P.en e (hf e h)
    · have := A5.on.len; exact this
theorem web_sp (hΔ : ∀ f, MonoN (Δ f)) (hd : DrawSp (Δ kd)) (hp : PairsSp (Δ kp)) {D : Df} (hb : D.body = bWeb kd kp) (hN : D.N.length = 7) (hps : D.ps.length = 2) : WebSp (wDef Δ D) := by
  intro t g S Q T q
  unfold wDef
  rw [hb, hN]
  refine ⟨hps.symm, ?_⟩
  have t0 := T.lt
  refine ⟨_, rfl, _, rfl, hp T fun n es l S1 P h1 hl T1 O1 => ?_⟩
  have A1 : Ah t S S1 l es := ⟨T1, O1, h1, hl, t0⟩
  refine ⟨_, rfl, by show 0 ≤ big; decide, ?_⟩
  have A2 := A1.push (o := SO.lst [])
  refine ⟨_, _, A2.at', at_new, .inr (.inr rfl), _, rfl, ?_⟩
  rw [eqSs_nil]
  refine ifB (fun _ => ?_) (fun _ => web_more hΔ hd P A2 fun es S' W T' O' => q n es S' W T' O')
  refine ⟨_, rfl, _, rfl, hp A2.tape fun n es l S3 P3 h3 hl3 T3 O3 => ?_⟩
  exact web_more hΔ hd P3 ⟨T3, A2.on.trans O3, h3, by have := A2.on.len; omega, t0⟩ fun es S' W T' O' => q n es S' W T' O'
end
end Rf
set_option Elab.async false
set_option linter.all false
set_option maxRecDepth 100000
set_option maxHeartbeats 1000000
namespace Rf
open PySem L2
noncomputable def bIsNum : List Stm := [(.ret (.and (.bi .isi (.cons (.var 0) (.cons (.tyc .int) .nil))) (.not (.bi .isi (.cons (.var 0) (.cons (.tyc .bool) .nil))))))]
noncomputable def bHasPlace (k : Nat) : List Stm := [(.ret (.and (.call k (.cons (.var 1) .nil)) (.chn .LtE .Lt (.c (.int 0)) (.var 1) (.ix (.var 0) (.c (.int 0))))))]
noncomputable def bHasTie (k : Nat) : List Stm := [(.ret (.and (.call k (.cons (.var 1) .nil)) (.chn .LtE .Lt (.c (.int 0)) (.var 1) (.bi .len (.cons (.ix (.var 0) (.c (.int 1))) .nil)))))]
noncomputable def bCheck (k : Nat) : List Stm := [(.iff (.not (.call k (.cons (.var 0) (.cons (.var 1) .nil)))) [.no] [])]
noncomputable def bTiesAt (k : Nat) : List Stm := [(.expr (.call k (.cons (.var 0) (.cons (.var 1) .nil)))), (.ret (.comp ["tie", "ends"] ["place"] [1] (.tup (.cons (.nm 0) (.cons (.nm 1) .nil))) (.enum (.ix (.var 0) (.c (.int 1)))) (.yes (.cmp .In (.var 2) (.var 1))) (.var 0)))]
noncomputable def IsNumSp (s : Sn) : Prop := ∀ {i : Int} {S : Sto} {Q : QE}, Q (.bl true) S → s [.int i] S Q
noncomputable def HasPlaceSp (s : Sn) : Prop := ∀ {n p : Nat} {es : List (Nat × Nat)} {S : Sto} {Q : QE}, p < n → Q (.bl true) S → s [webS n es, .int p] S Q
noncomputable def HasTieSp (s : Sn) : Prop := ∀ {n j : Nat} {es : List (Nat × Nat)} {S : Sto} {Q : QE}, j < es.length → Q (.bl true) S → s [webS n es, .int j] S Q
noncomputable def CheckPlaceSp (s : Sn) : Prop := ∀ {n p : Nat} {es : List (Nat × Nat)} {S : Sto} {Q : QE}, p < n → Q .non S → s [webS n es, .int p] S Q
noncomputable def CheckTieSp (s : Sn) : Prop := ∀ {n j : Nat} {es : List (Nat × Nat)} {S : Sto} {Q : QE}, j < es.length → Q .non S → s [webS n es, .int j] S Q
noncomputable def tiesAt (es : List (Nat × Nat)) (p : Nat) (i : Nat) : List Nat := (List.range i).filter fun j => match es[j]? with | some e => decide (e.1 = p) || decide (e.2 = p) | none => false
noncomputable def natS (xs : List Nat) : List SV := xs.map fun (i : Nat) => SV.int i
noncomputable def TiesAtSp (s : Sn) : Prop := ∀ {n p : Nat} {es : List (Nat × Nat)} {S : Sto} {Q : QE}, es.length ≤ 5000 → p < n → Q (.loc S.length) (S ++ [.lst (natS (tiesAt es p es.length))]) → s [webS n es, .int p] S Q
section
variable {Δ : Nat → Sn}
theorem isNum_sp {D : Df} (hb : D.body = bIsNum) (hN : D.N.length = 1) (hp : D.ps.length = 1) : IsNumSp (wDef Δ D) := by
  intro i S Q q
  unfold wDef
  rw [hb, hN]
  exact ⟨hp.symm, _, rfl, _, nofun, rfl, _, rfl, ifT rfl ⟨_, rfl, _, nofun, rfl, _, rfl, q⟩⟩
theorem hasPlace_sp {k : Nat} (h0 : IsNumSp (Δ k)) {D : Df} (hb : D.body = bHasPlace k) (hN : D.N.length = 2) (hp : D.ps.length = 2) : HasPlaceSp (wDef Δ D) := by
  intro n p es S Q h q
  unfold wDef
  rw [hb, hN]
  refine ⟨hp.symm, _, rfl, h0 ⟨_, rfl, ifT rfl ⟨_, rfl, _, rfl, ifT (decide_eq_true (Int.natCast_nonneg p)) ⟨_, rfl, _, _, rfl, rfl, ?_⟩⟩⟩⟩
  show Q (.bl (decide ((p : Int) < n))) S
  rw [decide_eq_true (by omega)]
  exact q
theorem hasTie_sp {k : Nat} (h0 : IsNumSp (Δ k)) {D : Df} (hb : D.body = bHasTie k) (hN : D.N.length = 2) (hp : D.ps.length = 2) : HasTieSp (wDef Δ D) := by
  intro n p es S Q h q
  unfold wDef
  rw [hb, hN]
  refine ⟨hp.symm, _, rfl, h0 ⟨_, rfl, ifT rfl ⟨_, rfl, _, rfl, ifT (decide_eq_true (Int.natCast_nonneg p)) ⟨_, rfl, _, _, rfl, rfl, _, rfl, ?_⟩⟩⟩⟩
  show Q (.bl (decide ((p : Int) < (es.map pairS).length))) S
  rw [decide_eq_true (by rw [List.length_map]; omega)]
  exact q
theorem checkPlace_sp {k : Nat} (h0 : HasPlaceSp (Δ k)) {D : Df} (hb : D.body = bCheck k) (hN : D.N.length = 2) (hp : D.ps.length = 2) : CheckPlaceSp (wDef Δ D) := by
  intro n p es S Q h q
  unfold wDef
  rw [hb, hN]
  exact ⟨hp.symm, _, rfl, _, rfl, h0 h ⟨_, rfl, ifF rfl q⟩⟩
theorem checkTie_sp {k : Nat} (h0 : HasTieSp (Δ k)) {D : Df} (hb : D.body = bCheck k) (hN : D.N.length = 2) (hp : D.ps.length = 2) : CheckTieSp (wDef Δ D) := by
  intro n p es S Q h q
  unfold wDef
  rw [hb, hN]
  exact ⟨hp.symm, _, rfl, _, rfl, h0 h ⟨_, rfl, ifF rfl q⟩⟩
theorem enumAt {xs : List SV} {i : Nat} {x : SV} (h : (enumS xs)[i]? = some x) : ∃ y, xs[i]? = some y ∧ x = .tup [.int i, y] := by
  unfold enumS at h
  rw [List.getElem?_zipWith] at h
  cases hy : xs[i]? with
  | none => rw [hy] at h; revert h; cases (List.range xs.length)[i]? <;> exact nofun
  | some y =>
    have hi := (List.getElem?_eq_some_iff.mp hy).1
    rw [hy, List.getElem?_range hi] at h
    exact ⟨y, rfl, (Option.some.inj h).symm⟩
theorem enumLen {xs : List SV} : (enumS xs).length = xs.length := by unfold enumS; simp
theorem pair_get {es : List (Nat × Nat)} {i : Nat} {x : SV} (h : (es.map pairS)[i]? = some x) : ∃ e, es[i]? = some e ∧ x = pairS e := by
  rw [List.getElem?_map] at h
  cases he : es[i]? with
  | none => rw [he] at h; cases h
  | some e => rw [he] at h; exact ⟨e, rfl, (Option.some.inj h).symm⟩
theorem in_pair (p : Nat) (e : Nat × Nat) : inS (.int p) [.int e.1, .int e.2] = (decide (e.1 = p) || decide (e.2 = p)) := by
  have k : ∀ a : Nat, ((a : Int) == (p : Int)) = decide (a = p) := fun a => by
    rw [Bool.eq_iff_iff]; simp [Int.natCast_inj]
  unfold inS
  simp only [List.any_cons, List.any_nil, Bool.or_false, eqF, k]
theorem tiesAt_succ (es : List (Nat × Nat)) (p i : Nat) {e : Nat × Nat} (h : es[i]? = some e) : tiesAt es p (i + 1) = tiesAt es p i ++ if (decide (e.1 = p) || decide (e.2 = p)) = true then [i] else [] := by
  unfold tiesAt
  rw [List.range_succ, List.filter_append]
  congr 1
  rw [List.filter_cons, h]
  rfl
theorem tiesAt_len (es : List (Nat × Nat)) (p i : Nat) : (tiesAt es p i).length ≤ i := by
  have := List.length_filter_le (fun j => match es[j]? with | some e => decide (e.1 = p) || decide (e.2 = p) | none => false) (List.range i)
  rw [List.length_range] at this
  exact this
theorem mem_tiesAt {es : List (Nat × Nat)} {p j : Nat} : j ∈ tiesAt es p es.length ↔ ∃ e, es[j]? = some e ∧ (e.1 = p ∨ e.2 = p) := by
  unfold tiesAt
  rw [List.mem_filter, List.mem_range]
  constructor
  · rintro ⟨h, h2⟩
    rw [List.getElem?_eq_getElem h] at h2
    exact ⟨_, List.getElem?_eq_getElem h, by simpa using h2⟩
  · rintro ⟨e, h, h2⟩
    refine ⟨(List.getElem?_eq_some_iff.mp h).1, ?_⟩
    rw [h]
    simpa using h2
theorem tiesAt_sp {k : Nat} (hΔ : ∀ f, MonoN (Δ f)) (h0 : CheckPlaceSp (Δ k)) {D : Df} (hb : D.body = bTiesAt k) (hN : D.N.length = 2) (hp : D.ps.length = 2) : TiesAtSp (wDef Δ D) := by
  intro n p es S Q hl h q
  unfold wDef
  rw [hb, hN]
  refine ⟨hp.symm, _, rfl, _, rfl, h0 h ⟨_, rfl, _, _, rfl, rfl, _, rfl, ?_⟩⟩
  refine turns_inv (eo_mono hΔ _).2 (ex_mono hΔ _).1 (fun i ys S' => S' = S ∧ ys = natS (tiesAt es p i)) ⟨rfl, rfl⟩ (fun _ _ _ _ => trivial) ?_ ?_
  · rintro i x ys S' hx ⟨rfl, rfl⟩
    obtain ⟨y, hy, rfl⟩ := enumAt hx
    obtain ⟨e, he, rfl⟩ := pair_get hy
    have hi := (List.getElem?_eq_some_iff.mp he).1
    have ht := tiesAt_len es p i
    refine ⟨_, rfl, _, rfl, rfl, _, rfl, rfl, _, rfl, ?_⟩
    show if inS (.int p) [.int e.1, .int e.2] = true then _ else _
    rw [in_pair]
    refine ifB (fun h => ?_) (fun h => ?_)
    · refine ⟨_, rfl, by show (natS _).length < 100000; unfold natS; rw [List.length_map]; omega, rfl, ?_⟩
      rw [tiesAt_succ es p i he, if_pos h]
      unfold natS
      rw [List.map_append]
      rfl
    · refine ⟨rfl, ?_⟩
      rw [tiesAt_succ es p i he, if_neg (by rw [h]; decide), List.append_nil]
  · rintro ys S' ⟨rfl, rfl⟩
    rw [enumLen, List.length_map]
    exact q
end
end Rf
set_option Elab.async false
set_option linter.all false
set_option maxRecDepth 100000
set_option maxHeartbeats 1000000
namespace Rf
open PySem L2
theorem natS_len {xs : List Nat} : (natS xs).length = xs.length := by unfold natS; rw [List.length_map]
theorem natS_get {xs : List Nat} {i x : Nat} (h : xs[i]? = some x) : (natS xs)[i]? = some (.int x) := by unfold natS; rw [List.getElem?_map, h]; rfl
theorem natS_app {xs ys : List Nat} : natS (xs ++ ys) = natS xs ++ natS ys := by unfold natS; rw [List.map_append]
theorem rng_nat (m : Nat) : rngS 0 (m : Int) = natS (List.range m) := by
  unfold rngS natS
  simp
section
variable {Δ : Nat → Sn} {kd kw : Nat}
end
end Rf
set_option Elab.async false
set_option linter.all false
set_option maxRecDepth 100000
set_option maxHeartbeats 1000000
namespace Rf
open PySem L2
section
variable {Δ : Nat → Sn} {k : Nat} {D : Df}
end
end Rf
set_option Elab.async false
set_option linter.all false
set_option maxRecDepth 100000
set_option maxHeartbeats 1000000
namespace Rf
open PySem L2
end Rf
set_option Elab.async false
set_option linter.all false
set_option maxRecDepth 100000
set_option maxHeartbeats 1000000
namespace Rf
open PySem L2
structure Gw (S S' : Sto) : Prop where
  len : S.length ≤ S'.length
  keep : ∀ (k : Nat) (o : SO), S[k]? = some o → S'[k]? = some o
theorem Gw.refl (S : Sto) : Gw S S := ⟨Nat.le_refl _, fun _ _ h => h⟩
theorem Gw.push {S S' : Sto} {o : SO} (h : Gw S S') : Gw S (S' ++ [o]) := ⟨by rw [List.length_append]; have := h.len; omega, fun k u z => at_old (h.keep k u z)⟩
theorem Gw.put {S S' : Sto} {o : SO} {k : Nat} (h : Gw S S') (hk : S.length ≤ k) : Gw S (S'.set k o) := ⟨by rw [List.length_set]; exact h.len, fun j u z => by
  rw [at_ne (fun e => by have := lt_of z; omega)]; exact h.keep j u z⟩
theorem Gw.trans {S S' S'' : Sto} (a : Gw S S') (b : Gw S' S'') : Gw S S'' := ⟨Nat.le_trans a.len b.len, fun k o h => b.keep k o (a.keep k o h)⟩
end Rf
set_option Elab.async false
set_option linter.all false
set_option maxRecDepth 100000
set_option maxHeartbeats 1000000
namespace Rf
open PySem L2
end Rf
set_option Elab.async false
set_option linter.all false
set_option maxRecDepth 100000
set_option maxHeartbeats 1000000
namespace Rf
open PySem L2
section
variable {a b w : Nat} {S0 S : Sto} {sd bk sd' bk' : List (Option Nat)} {wt wt' : List Nat}
end
section
variable {Δ : Nat → Sn} {kt kf : Nat}
end
end Rf
set_option Elab.async false
set_option linter.all false
set_option maxRecDepth 100000
set_option maxHeartbeats 1000000
namespace Rf
open PySem L2
end Rf
set_option Elab.async false
set_option linter.all false
set_option maxRecDepth 100000
set_option maxHeartbeats 1000000
namespace Rf
open PySem L2
end Rf
set_option Elab.async false
set_option linter.all false
set_option maxRecDepth 100000
set_option maxHeartbeats 1000000
namespace Rf
open PySem L2
theorem natS_flat (xs : List Nat) : (natS xs).all flatS = true := by
  unfold natS
  rw [List.all_map, List.all_eq_true]
  exact fun _ _ => rfl
end Rf
set_option Elab.async false
set_option linter.all false
set_option maxRecDepth 100000
set_option maxHeartbeats 1000000
namespace Rf
open PySem L2
end Rf
set_option Elab.async false
set_option linter.all false
set_option maxRecDepth 100000
set_option maxHeartbeats 1000000
namespace Rf
open PySem L2
noncomputable def g1' : Stm := (.asg (.nm 1) (.lrng1 (.ix (.var 0) (.c (.int 0)))))
noncomputable def g2' : Stm := (.loop (.tup (.cons (.nm 2) (.cons (.nm 3) .nil))) (.seq (.ix (.var 0) (.c (.int 1)))) [(.asg (.nm 4) (.bi .min (.cons (.ix (.var 1) (.var 2)) (.cons (.ix (.var 1) (.var 3)) .nil)))), (.asg (.nm 5) (.bi .max (.cons (.ix (.var 1) (.var 2)) (.cons (.ix (.var 1) (.var 3)) .nil)))), (.asg (.nm 1) (.comp ["first"] ["high", "low"] [5, 4] (.nm 0) (.seq (.var 1)) .no (.ife (.cmp .Eq (.var 0) (.var 1)) (.var 2) (.var 0))))])
noncomputable def g3' : Stm := (.ret (.comp ["first"] ["least", "web"] [1, 0] (.nm 0) (.rng1 (.ix (.var 0) (.c (.int 0)))) (.yes (.cmp .Eq (.ix (.var 1) (.var 0)) (.var 0))) (.comp ["place"] ["least", "first"] [1, 0] (.nm 0) (.rng1 (.ix (.var 2) (.c (.int 0)))) (.yes (.cmp .Eq (.ix (.var 1) (.var 0)) (.var 2))) (.var 0))))
noncomputable def bParts : List Stm := [g1', g2', g3']
noncomputable def lowM (a b x : Nat) : Nat := if x = max a b then min a b else x
theorem min_nat (a b : Nat) : (if (b : Int) < a then (b : Int) else a) = ((min a b : Nat) : Int) := by split <;> omega
theorem max_nat (a b : Nat) : (if (b : Int) > a then (b : Int) else a) = ((max a b : Nat) : Int) := by split <;> omega
noncomputable def gc' : Stm := (.asg (.nm 1) (.comp ["first"] ["high", "low"] [5, 4] (.nm 0) (.seq (.var 1)) .no (.ife (.cmp .Eq (.var 0) (.var 1)) (.var 2) (.var 0))))
theorem bring_sp {Δ : Nat → Sn} (hΔ : ∀ f, MonoN (Δ f)) {D : EndsS} {a b k : Nat} {z1 z2 : Int} {w o2 o3 : Option SV} {ms : List Nat} {S : Sto} (e1 : z1 = ((min a b : Nat) : Int)) (e2 : z2 = ((max a b : Nat) : Int)) (hl : ms.length ≤ 1000) (hk : S[k]? = some (.lst (natS ms)))
    (q : D.nx [w, some (.loc S.length), o2, o3, some (.int z1), some (.int z2)] (S ++ [.lst (natS (ms.map (lowM a b)))])) : wSs Δ [gc'] D [w, some (.loc k), o2, o3, some (.int z1), some (.int z2)] S := by
  subst e1 e2
  refine ⟨_, rfl, _, seq_loc hk, ?_⟩
  refine turns_inv (eo_mono hΔ _).2 (ex_mono hΔ _).1 (fun j ys S2 => S2 = S ∧ ys = natS ((ms.take j).map (lowM a b))) ⟨rfl, rfl⟩ (fun _ _ _ h => by rw [h.1]; exact rfl) ?_ ?_
  · rintro j y ys S2 hy ⟨rfl, rfl⟩
    have hj : j < ms.length := by have := (List.getElem?_eq_some_iff.mp hy).1; rwa [natS_len] at this
    rw [natS_get (List.getElem?_eq_getElem hj)] at hy
    have hy := Option.some.inj hy
    subst hy
    have fin : ∀ z : Int, z = lowM a b ms[j] → (natS ((ms.take j).map (lowM a b))).length < big ∧ S2 = S2 ∧ natS ((ms.take j).map (lowM a b)) ++ [.int z] = natS ((ms.take (j + 1)).map (lowM a b)) := by
      rintro _ rfl
      refine ⟨by rw [natS_len, List.length_map, List.length_take]; show _ < 100000; omega, rfl, ?_⟩
      rw [List.take_succ, List.getElem?_eq_getElem hj, List.map_append, natS_app]
      rfl
    refine ⟨_, rfl, _, rfl, _, rfl, ifD (fun h => ⟨_, rfl, fin _ ?_⟩) (fun h => ⟨_, rfl, fin _ ?_⟩)⟩
    · have h : ms[j] = max a b := Int.natCast_inj.mp h
      unfold lowM; rw [if_pos h]
    · have h : ¬ ms[j] = max a b := fun z => h (congrArg _ z)
      unfold lowM; rw [if_neg h]
  · rintro ys S2 ⟨rfl, rfl⟩
    rw [natS_len, List.take_length]
    exact q
end Rf
set_option Elab.async false
set_option linter.all false
set_option maxRecDepth 100000
set_option maxHeartbeats 1000000
namespace Rf
open PySem L2
theorem bl_rep (b : Bool) (n : Nat) : blS (List.replicate n (.bl b)) = some (List.replicate n b) := by
  induction n with
  | zero => rfl
  | succ n ih => rw [List.replicate_succ, List.replicate_succ]; simp [blS, ih]
theorem turns_bl {Δ : Nat → Sn} (hΔ : ∀ f, MonoN (Δ f)) {e : Ex} {keep : Sto → Prop} {g : Tg} {ρ : EnvS} {Q : List SV → Sto → Prop} {b : Bool} {xs : List SV} {S : Sto} (hl : xs.length ≤ 1000) (hk : ∀ S', Gw S S' → keep S')
    (hs : ∀ (i : Nat) (x : SV) (S' : Sto), xs[i]? = some x → Gw S S' → wTg g x ρ fun ρ2 => (wEx Δ e).1 ρ2 S' fun y S2 => y = .bl b ∧ Gw S S2)
    (q : ∀ S', Gw S S' → Q (List.replicate xs.length (.bl b)) S') : wTurns keep g (wEo Δ .no).2 (wEx Δ e).1 ρ Q xs [] S := by
  refine turns_inv (eo_mono hΔ _).2 (ex_mono hΔ _).1 (fun i ys S' => Gw S S' ∧ ys = List.replicate i (.bl b)) ⟨Gw.refl S, rfl⟩ (fun _ _ _ h => hk _ h.1) ?_ ?_
  · rintro i x ys S' hx ⟨G, rfl⟩
    have hi := (List.getElem?_eq_some_iff.mp hx).1
    refine mono_tg g (fun ρ2 h => ?_) (hs i x S' hx G)
    refine (ex_mono hΔ e).1 _ _ _ _ (fun y S2 h => ⟨by rw [List.length_replicate]; show _ < 100000; omega, h.2, ?_⟩) h
    rw [h.1, List.replicate_succ']
  · rintro ys S' ⟨G, rfl⟩
    exact q S' G
section
variable {Δ : Nat → Sn}
theorem any_rep (n : Nat) : (List.replicate n false).any id = false := by simp
end
end Rf
set_option Elab.async false
set_option linter.all false
set_option maxRecDepth 100000
set_option maxHeartbeats 1000000
namespace Hue
noncomputable def lowO (ms : List Nat) (e : Nat × Nat) : Nat := min (ms.getD e.1 0) (ms.getD e.2 0)
noncomputable def highO (ms : List Nat) (e : Nat × Nat) : Nat := max (ms.getD e.1 0) (ms.getD e.2 0)
noncomputable def bring (ms : List Nat) (e : Nat × Nat) : List Nat := ms.map fun x => if x = highO ms e then lowO ms e else x
noncomputable def marks (n : Nat) (es : List (Nat × Nat)) : List Nat := es.foldl bring (List.range n)
structure Mk (n : Nat) (ms : List Nat) : Prop where
  len : ms.length = n
  le : ∀ i (h : i < ms.length), ms[i] ≤ i
  fix : ∀ i (h : i < ms.length), ms[ms[i]]? = some ms[i]
theorem mk_range (n : Nat) : Mk n (List.range n) := ⟨by simp, fun i h => by simp, fun i h => by
    have hi : i < n := by simpa using h
    simp [List.getElem?_range, hi]⟩
theorem mk_bring {n : Nat} {ms : List Nat} (M : Mk n ms) {e : Nat × Nat} (h1 : e.1 < n) (h2 : e.2 < n) : Mk n (bring ms e) := by
  have l1 : e.1 < ms.length := by rw [M.len]; exact h1
  have l2 : e.2 < ms.length := by rw [M.len]; exact h2
  have g1 : ms.getD e.1 0 = ms[e.1] := by simp [List.getD, l1]
  have g2 : ms.getD e.2 0 = ms[e.2] := by simp [List.getD, l2]
  have fl : ms[lowO ms e]? = some (lowO ms e) := by
    unfold lowO
    rw [g1, g2]
    rcases Nat.le_total ms[e.1] ms[e.2] with z | z
    · rw [Nat.min_eq_left z]; exact M.fix _ l1
    · rw [Nat.min_eq_right z]; exact M.fix _ l2
  have hlh : lowO ms e ≤ highO ms e := by unfold lowO highO; omega
  have at' : ∀ i (h : i < (bring ms e).length), (bring ms e)[i] = if ms[i]'(by simpa [bring] using h) = highO ms e then lowO ms e else ms[i]'(by simpa [bring] using h) := fun i h => by simp [bring]
  refine ⟨by rw [bring, List.length_map, M.len], fun i h => ?_, fun i h => ?_⟩
  · rw [at' i h]
    have hi : i < ms.length := by simpa [bring] using h
    have := M.le i hi
    split
    · rename_i q; omega
    · exact this
  · have hi : i < ms.length := by simpa [bring] using h
    have key : ∀ v, ms[v]? = some v → (v ≠ highO ms e ∨ v = lowO ms e) → (bring ms e)[v]? = some v := by
      intro v hv q
      unfold bring
      rw [List.getElem?_map, hv]
      show some (if v = highO ms e then lowO ms e else v) = some v
      rcases q with q | q
      · rw [if_neg q]
      · split
        · rw [← q]
        · rfl
    rw [at' i h]
    split
    · exact key _ fl (.inr rfl)
    · rename_i q
      exact key _ (M.fix i hi) (.inl q)
theorem mk_marks {n : Nat} : ∀ {es : List (Nat × Nat)} {ms : List Nat}, Mk n ms → (∀ e ∈ es, e.1 < n ∧ e.2 < n) → Mk n (es.foldl bring ms)
  | [], _, M, _ => M
  | e :: es, ms, M, h => mk_marks (es := es) (ms := bring ms e) (mk_bring M (h e (List.mem_cons_self ..)).1 (h e (List.mem_cons_self ..)).2) fun f hf => h f (List.mem_cons_of_mem _ hf)
noncomputable def Cl (es : List (Nat × Nat)) (C : Nat → Prop) : Prop := ∀ e ∈ es, C e.1 ↔ C e.2
theorem bring_at {ms : List Nat} {e : Nat × Nat} {p : Nat} (h : p < ms.length) : (bring ms e).getD p 0 = if ms.getD p 0 = highO ms e then lowO ms e else ms.getD p 0 := by
  unfold bring
  simp [List.getD, h]
theorem bring_len {ms : List Nat} {e : Nat × Nat} : (bring ms e).length = ms.length := by simp [bring]
theorem lh_cases (ms : List Nat) (e : Nat × Nat) : (lowO ms e = ms.getD e.1 0 ∧ highO ms e = ms.getD e.2 0) ∨ (lowO ms e = ms.getD e.2 0 ∧ highO ms e = ms.getD e.1 0) := by
  unfold lowO highO
  rcases Nat.le_total (ms.getD e.1 0) (ms.getD e.2 0) with z | z
  · exact .inl ⟨Nat.min_eq_left z, Nat.max_eq_right z⟩
  · exact .inr ⟨Nat.min_eq_right z, Nat.max_eq_left z⟩
theorem cl_bring {n : Nat} {C : Nat → Prop} : ∀ {es : List (Nat × Nat)} {ms : List Nat}, ms.length = n → (∀ e ∈ es, e.1 < n ∧ e.2 < n) → Cl es C → (∀ p, p < n → (C p ↔ C (ms.getD p 0))) → ∀ p, p < n → (C p ↔ C ((es.foldl bring ms).getD p 0))
  | [], _, _, _, _, h => h
  | e :: es, ms, hl, hn, hc, h => by
    refine cl_bring (es := es) (ms := bring ms e) (by rw [bring_len, hl]) (fun f hf => hn f (List.mem_cons_of_mem _ hf)) (fun f hf => hc f (List.mem_cons_of_mem _ hf)) fun p hp => ?_
    have he := hn e (List.mem_cons_self ..)
    have c1 := h e.1 he.1
    have c2 := h e.2 he.2
    have c0 := hc e (List.mem_cons_self ..)
    have hp0 := h p hp
    rw [bring_at (by omega)]
    split
    · rename_i z
      rw [z] at hp0
      rcases lh_cases ms e with ⟨a, b⟩ | ⟨a, b⟩
      · rw [a]; rw [b] at hp0; exact hp0.trans (c2.symm.trans (c0.symm.trans c1))
      · rw [a]; rw [b] at hp0; exact hp0.trans (c1.symm.trans (c0.trans c2))
    · exact hp0
theorem cl_marks {n : Nat} {es : List (Nat × Nat)} {C : Nat → Prop} (hn : ∀ e ∈ es, e.1 < n ∧ e.2 < n) (hc : Cl es C) {p : Nat} (hp : p < n) : C p ↔ C ((marks n es).getD p 0) := by
  refine cl_bring (ms := List.range n) (by simp) hn hc (fun q hq => ?_) p hp
  simp [List.getD, hq]
theorem eq_bring {n : Nat} {a b : Nat} : ∀ {es : List (Nat × Nat)} {ms : List Nat}, ms.length = n → a < n → b < n → ms.getD a 0 = ms.getD b 0 → (es.foldl bring ms).getD a 0 = (es.foldl bring ms).getD b 0
  | [], _, _, _, _, h => h
  | e :: es, ms, hl, ha, hb, h => by
    refine eq_bring (es := es) (ms := bring ms e) (by rw [bring_len, hl]) ha hb ?_
    rw [bring_at (by omega), bring_at (by omega), h]
theorem ends_mark {n : Nat} : ∀ {es : List (Nat × Nat)} {ms : List Nat}, ms.length = n → (∀ e ∈ es, e.1 < n ∧ e.2 < n) → ∀ e ∈ es, (es.foldl bring ms).getD e.1 0 = (es.foldl bring ms).getD e.2 0
  | f :: es, ms, hl, hn, e, he => by
    rcases List.mem_cons.mp he with rfl | he
    · have hb := hn e (List.mem_cons_self ..)
      refine eq_bring (es := es) (ms := bring ms e) (by rw [bring_len, hl]) hb.1 hb.2 ?_
      rw [bring_at (by omega), bring_at (by omega)]
      rcases lh_cases ms e with ⟨a, b⟩ | ⟨a, b⟩
      · rw [a, b]; simp
      · rw [a, b]; simp
    · exact ends_mark (es := es) (ms := bring ms f) (by rw [bring_len, hl]) (fun g hg => hn g (List.mem_cons_of_mem _ hg)) e he
theorem marks_ends {n : Nat} {es : List (Nat × Nat)} (hn : ∀ e ∈ es, e.1 < n ∧ e.2 < n) : ∀ e ∈ es, (marks n es).getD e.1 0 = (marks n es).getD e.2 0 := ends_mark (by simp) hn
end Hue
set_option Elab.async false
set_option linter.all false
set_option maxRecDepth 100000
set_option maxHeartbeats 1000000
namespace Rf
open PySem L2
section
variable {Δ : Nat → Sn}
end
end Rf
set_option Elab.async false
set_option linter.all false
set_option maxRecDepth 100000
set_option maxHeartbeats 4000000
namespace L2
open PySem PySem.Spec PyProof.Rows
section
variable {X : Cx} {o : Option Addr} {C : St → Hp → Prop} {k b n : Nat} {e : Expr} {es : List Expr} {pos : Pos}
end
end L2
set_option Elab.async false
set_option linter.all false
set_option maxRecDepth 100000
set_option maxHeartbeats 1000000
namespace Rf
open PySem L2
end Rf
set_option Elab.async false
set_option linter.all false
set_option maxRecDepth 100000
set_option maxHeartbeats 1000000
namespace Rf
open PySem L2
end Rf
set_option Elab.async false
set_option linter.all false
set_option maxRecDepth 100000
set_option maxHeartbeats 1000000
namespace Rf
open PySem L2
end Rf
set_option Elab.async false
set_option linter.all false
set_option maxRecDepth 100000
set_option maxHeartbeats 1000000
namespace Rf
open PySem L2
section
variable {Δ : Nat → Sn}
theorem ss_nil {D : EndsS} {ρ : EnvS} {S : Sto} (h : D.nx ρ S) : wSs Δ [] D ρ S := h
end
end Rf
set_option Elab.async false
set_option linter.all false
set_option maxRecDepth 100000
set_option maxHeartbeats 1000000
namespace Hue
theorem len_split {α : Type} (p q : α → Bool) : ∀ l : List α, (l.filter p).length = (l.filter fun a => p a && q a).length + (l.filter fun a => p a && !q a).length
  | [] => rfl
  | a :: l => by
    have ih := len_split p q l
    rw [List.filter_cons, List.filter_cons, List.filter_cons]
    cases p a <;> cases q a <;> simp <;> omega
theorem len_one {α : Type} [DecidableEq α] {p : α → Bool} {l : List α} (nd : l.Nodup) {a : α} (ha : a ∈ l) (h : ∀ b ∈ l, p b = true ↔ b = a) : (l.filter p).length = 1 := by
  induction l with
  | nil => cases ha
  | cons b l ih =>
    rw [List.nodup_cons] at nd
    rw [List.filter_cons]
    rcases List.mem_cons.mp ha with rfl | ha'
    · rw [if_pos ((h a (List.mem_cons_self ..)).mpr rfl)]
      have : l.filter p = [] := List.filter_eq_nil_iff.mpr fun b hb z => nd.1 (by rw [← (h b (List.mem_cons_of_mem _ hb)).mp z]; exact hb)
      rw [this]; rfl
    · have hb : ¬ p b = true := fun z => nd.1 (by rw [(h b (List.mem_cons_self ..)).mp z]; exact ha')
      rw [if_neg hb]
      exact ih nd.2 ha' fun c hc => h c (List.mem_cons_of_mem _ hc)
theorem two_of_len {α : Type} : ∀ {l : List α}, l.Nodup → 1 < l.length → ∃ a b, a ∈ l ∧ b ∈ l ∧ a ≠ b
  | a :: b :: l, nd, _ => by
    rw [List.nodup_cons] at nd
    exact ⟨a, b, List.mem_cons_self .., List.mem_cons_of_mem _ (List.mem_cons_self ..), fun z => nd.1 (z ▸ List.mem_cons_self ..)⟩
theorem len_of_two {α : Type} : ∀ {l : List α} {a b : α}, a ∈ l → b ∈ l → a ≠ b → 1 < l.length
  | [c], a, b, ha, hb, h => absurd ((List.mem_singleton.mp ha).trans (List.mem_singleton.mp hb).symm) h
  | _ :: _ :: l, _, _, _, _, _ => by simp
theorem len_less {α : Type} {p q : α → Bool} : ∀ {l : List α}, (∀ a ∈ l, q a = true → p a = true) → (∃ a ∈ l, p a = true ∧ q a = false) → (l.filter q).length < (l.filter p).length
  | c :: l, h, ⟨a, ha, h1, h2⟩ => by
    have le : ∀ {l : List α}, (∀ a ∈ l, q a = true → p a = true) → (l.filter q).length ≤ (l.filter p).length := by
      intro l
      induction l with
      | nil => intro _; exact Nat.le_refl _
      | cons c l ih =>
        intro h
        have i := ih fun a ha => h a (List.mem_cons_of_mem _ ha)
        have hc := h c (List.mem_cons_self ..)
        rw [List.filter_cons, List.filter_cons]
        cases hq : q c <;> cases hp : p c <;> simp <;> first | omega | (rw [hq, hp] at hc; exact absurd (hc rfl) (by decide))
    have h' : ∀ a ∈ l, q a = true → p a = true := fun a ha => h a (List.mem_cons_of_mem _ ha)
    rw [List.filter_cons, List.filter_cons]
    rcases List.mem_cons.mp ha with rfl | ha'
    · rw [h1, h2]; have := le h'; simp; omega
    · have i := len_less h' ⟨a, ha', h1, h2⟩
      have hc := h c (List.mem_cons_self ..)
      cases hq : q c <;> cases hp : p c <;> simp <;> first | omega | (rw [hq, hp] at hc; exact absurd (hc rfl) (by decide))
noncomputable def mk (n : Nat) (es : List (Nat × Nat)) (p : Nat) : Nat := (marks n es).getD p 0
noncomputable def off (x : Nat) (es : List (Nat × Nat)) : List (Nat × Nat) := es.filter fun e => !(decide (e.1 = x) || decide (e.2 = x))
noncomputable def roots (n : Nat) (es : List (Nat × Nat)) : Nat := ((List.range n).filter fun p => decide (mk n es p = p)).length
section
variable {n : Nat} {es : List (Nat × Nat)} (hn : ∀ e ∈ es, e.1 < n ∧ e.2 < n)
include hn
theorem mk_le {p : Nat} (hp : p < n) : mk n es p ≤ p := by
  have M : Mk n (marks n es) := mk_marks (mk_range n) hn
  have hpm : p < (marks n es).length := by rw [M.len]; exact hp
  have := M.le p hpm
  unfold mk
  simpa [List.getD, hpm] using this
theorem mk_lt {p : Nat} (hp : p < n) : mk n es p < n := Nat.lt_of_le_of_lt (mk_le hn hp) hp
theorem mk_mk {p : Nat} (hp : p < n) : mk n es (mk n es p) = mk n es p := by
  have M : Mk n (marks n es) := mk_marks (mk_range n) hn
  have hpm : p < (marks n es).length := by rw [M.len]; exact hp
  have := M.fix p hpm
  have e : mk n es p = (marks n es)[p] := by unfold mk; simp [List.getD, hpm]
  rw [e]
  unfold mk
  rw [List.getD_eq_getElem?_getD, this]
  rfl
theorem mk_cl {C : Nat → Prop} (hc : Cl es C) {p : Nat} (hp : p < n) : C p ↔ C (mk n es p) := cl_marks hn hc hp
theorem mk_ends : ∀ e ∈ es, mk n es e.1 = mk n es e.2 := marks_ends hn
theorem mk_same {C : Nat → Prop} (hc : Cl es C) {p q : Nat} (hp : p < n) (hq : q < n) (h : mk n es p = mk n es q) : C p ↔ C q := by
  rw [mk_cl hn hc hp, h]; exact (mk_cl hn hc hq).symm
theorem root_least {p : Nat} (hp : p < n) : mk n es p = p ↔ ∀ q, q < n → mk n es q = mk n es p → p ≤ q := by
  constructor
  · intro h q hq e
    have := mk_le hn hq
    omega
  · intro h
    have := h (mk n es p) (mk_lt hn hp) (mk_mk hn hp)
    have := mk_le hn hp
    omega
end
section
variable {n x : Nat} {es : List (Nat × Nat)}
theorem off_mem {e : Nat × Nat} : e ∈ off x es ↔ e ∈ es ∧ e.1 ≠ x ∧ e.2 ≠ x := by
  unfold off
  rw [List.mem_filter]
  simp
theorem off_hn (hn : ∀ e ∈ es, e.1 < n ∧ e.2 < n) : ∀ e ∈ off x es, e.1 < n ∧ e.2 < n := fun e he => hn e (off_mem.mp he).1
variable (hn : ∀ e ∈ es, e.1 < n ∧ e.2 < n)
include hn
theorem off_sub {p q : Nat} (hp : p < n) (hq : q < n) (h : mk n (off x es) p = mk n (off x es) q) : mk n es p = mk n es q := by
  refine (mk_same (C := fun r => mk n es r = mk n es q) (off_hn hn) (fun e he => ?_) hp hq h).mpr rfl
  show mk n es e.1 = _ ↔ mk n es e.2 = _
  rw [mk_ends hn e (off_mem.mp he).1]
theorem off_far {p q : Nat} (hp : p < n) (hq : q < n) (hx : x < n) (ne : mk n es p ≠ mk n es x) : mk n (off x es) q = mk n (off x es) p ↔ mk n es q = mk n es p := by
  refine ⟨off_sub hn hq hp, fun h => ?_⟩
  refine (mk_same (C := fun r => mk n (off x es) r = mk n (off x es) p) hn (fun e he => ?_) hq hp h).mpr rfl
  show mk n (off x es) e.1 = _ ↔ mk n (off x es) e.2 = _
  by_cases h1 : e.1 ≠ x ∧ e.2 ≠ x
  · rw [mk_ends (off_hn hn) e (off_mem.mpr ⟨he, h1⟩)]
  · have hb := hn e he
    have hm := mk_ends hn e he
    have ex : mk n es e.1 = mk n es x := by
      by_cases z : e.1 = x
      · rw [z]
      · have : e.2 = x := Classical.byContradiction fun y => h1 ⟨z, y⟩
        rw [hm, this]
    exact ⟨fun z => absurd ((off_sub hn hb.1 hp z).symm.trans ex) ne, fun z => absurd ((off_sub hn hb.2 hp z).symm.trans (hm.symm.trans ex)) ne⟩
theorem off_self {q : Nat} (hq : q < n) (hx : x < n) : mk n (off x es) q = mk n (off x es) x ↔ q = x := by
  refine ⟨fun h => ?_, fun h => by rw [h]⟩
  refine (mk_same (C := fun r => r = x) (off_hn hn) (fun e he => ?_) hq hx h).mpr rfl
  have := off_mem.mp he
  exact ⟨fun z => absurd z this.2.1, fun z => absurd z this.2.2⟩
theorem off_root (hx : x < n) : mk n (off x es) x = x := (root_least (off_hn hn) hx).mpr fun q hq h => by rw [(off_self hn hq hx).mp h]; exact Nat.le_refl _
noncomputable def Cuts (n : Nat) (es : List (Nat × Nat)) (x : Nat) : Prop := ∃ p q, (p < n ∧ p ≠ x ∧ mk n es p = mk n es x) ∧ (q < n ∧ q ≠ x ∧ mk n es q = mk n es x) ∧ mk n (off x es) p ≠ mk n (off x es) q
theorem cut_count (hx : x < n) : roots n es + 1 < roots n (off x es) ↔ Cuts n es x := by
  have nd : (List.range n).Nodup := List.nodup_range
  have s1 := len_split (fun p => decide (mk n es p = p)) (fun p => decide (mk n es p = mk n es x)) (List.range n)
  have s2 := len_split (fun p => decide (mk n (off x es) p = p)) (fun p => decide (mk n es p = mk n es x)) (List.range n)
  have s3 := len_split (fun p => decide (mk n (off x es) p = p) && decide (mk n es p = mk n es x)) (fun p => decide (p = x)) (List.range n)
  have e1 : ((List.range n).filter fun p => decide (mk n es p = p) && decide (mk n es p = mk n es x)).length = 1 := by
    refine len_one nd (a := mk n es x) (List.mem_range.mpr (mk_lt hn hx)) fun b hb => ?_
    simp only [Bool.and_eq_true, decide_eq_true_eq]
    constructor
    · rintro ⟨h1, h2⟩; omega
    · rintro rfl; exact ⟨mk_mk hn hx, mk_mk hn hx⟩
  have e2 : ((List.range n).filter fun p => decide (mk n es p = p) && !decide (mk n es p = mk n es x)) = (List.range n).filter fun p => decide (mk n (off x es) p = p) && !decide (mk n es p = mk n es x) := by
    refine List.filter_congr fun p hp => ?_
    have hp := List.mem_range.mp hp
    by_cases z : mk n es p = mk n es x
    · simp [z]
    · congr 1
      rw [decide_eq_decide, root_least hn hp, root_least (off_hn hn) hp]
      constructor
      · intro h q hq e; exact h q hq ((off_far hn hp hq hx z).mp e)
      · intro h q hq e; exact h q hq ((off_far hn hp hq hx z).mpr e)
  have e3 : ((List.range n).filter fun p => (decide (mk n (off x es) p = p) && decide (mk n es p = mk n es x)) && decide (p = x)).length = 1 := by
    refine len_one nd (a := x) (List.mem_range.mpr hx) fun b hb => ?_
    simp only [Bool.and_eq_true, decide_eq_true_eq]
    constructor
    · rintro ⟨_, h2⟩; exact h2
    · rintro rfl; exact ⟨⟨off_root hn hx, rfl⟩, rfl⟩
  have e4 : 1 < ((List.range n).filter fun p => (decide (mk n (off x es) p = p) && decide (mk n es p = mk n es x)) && !decide (p = x)).length ↔ Cuts n es x := by
    constructor
    · intro h
      obtain ⟨a, b, ha, hb, ne⟩ := two_of_len (nd.filter _) h
      rw [List.mem_filter, List.mem_range] at ha hb
      simp only [Bool.and_eq_true, Bool.not_eq_true', decide_eq_true_eq, decide_eq_false_iff_not] at ha hb
      exact ⟨a, b, ⟨ha.1, ha.2.2, ha.2.1.2⟩, ⟨hb.1, hb.2.2, hb.2.1.2⟩, by rw [ha.2.1.1, hb.2.1.1]; exact ne⟩
    · rintro ⟨p, q, hp, hq, ne⟩
      have go : ∀ r, (r < n ∧ r ≠ x ∧ mk n es r = mk n es x) → mk n (off x es) r ∈ (List.range n).filter fun p => (decide (mk n (off x es) p = p) && decide (mk n es p = mk n es x)) && !decide (p = x) := by
        intro r ⟨r1, r2, r3⟩
        rw [List.mem_filter, List.mem_range]
        simp only [Bool.and_eq_true, Bool.not_eq_true', decide_eq_true_eq, decide_eq_false_iff_not]
        refine ⟨mk_lt (off_hn hn) r1, ⟨mk_mk (off_hn hn) r1, ?_⟩, fun z => r2 ?_⟩
        · rw [← r3]; exact off_sub hn (mk_lt (off_hn hn) r1) r1 (mk_mk (off_hn hn) r1)
        · exact (off_self hn r1 hx).mp (by rw [z]; exact (off_root hn hx).symm)
      exact len_of_two (go p hp) (go q hq) ne
  rw [← e4]
  unfold roots
  rw [e2] at s1
  omega
end
noncomputable def dn (L : Nat → Nat) (e : Nat × Nat) : Nat → Nat := fun p => if p = e.2 then min (L e.1) (L e.2) else if p = e.1 then min (L e.1) (L e.2) else L p
noncomputable def dnR (es : List (Nat × Nat)) (L : Nat → Nat) : Nat → Nat := es.foldl dn L
noncomputable def dnN (es : List (Nat × Nat)) : Nat → (Nat → Nat) → Nat → Nat
  | 0, L => L
  | k + 1, L => dnR es (dnN es k L)
theorem dn_ge {n : Nat} {N L : Nat → Nat} {e : Nat × Nat} (hm : N e.1 = N e.2) (h1 : e.1 < n) (h2 : e.2 < n) (h : ∀ p, p < n → N p ≤ L p) : ∀ p, p < n → N p ≤ dn L e p := by
  intro p hp
  have a := h e.1 h1
  have b := h e.2 h2
  unfold dn
  split
  · rename_i z; rw [z]; omega
  · split
    · rename_i z; rw [z]; omega
    · exact h p hp
theorem dn_good {n : Nat} {N L : Nat → Nat} {e : Nat × Nat} (hm : N e.1 = N e.2) (h1 : e.1 < n) (h2 : e.2 < n) (h : ∀ p, p < n → N p ≤ L p) {p : Nat} (hp : L p = N p) : dn L e p = N p := by
  have a := h e.1 h1
  have b := h e.2 h2
  unfold dn
  split
  · rename_i z; rw [z] at hp ⊢; omega
  · split
    · rename_i z; rw [z] at hp ⊢; omega
    · exact hp
theorem dnR_keep {n : Nat} {N : Nat → Nat} : ∀ {es : List (Nat × Nat)} {L : Nat → Nat}, (∀ e ∈ es, N e.1 = N e.2) → (∀ e ∈ es, e.1 < n ∧ e.2 < n) → (∀ p, p < n → N p ≤ L p) → (∀ p, p < n → N p ≤ dnR es L p) ∧ ∀ p, L p = N p → dnR es L p = N p
  | [], L, _, _, h => ⟨h, fun _ z => z⟩
  | e :: es, L, hm, hn, h => by
    have m := hm e (List.mem_cons_self ..)
    have b := hn e (List.mem_cons_self ..)
    have ih := dnR_keep (es := es) (L := dn L e) (fun f hf => hm f (List.mem_cons_of_mem _ hf)) (fun f hf => hn f (List.mem_cons_of_mem _ hf)) (dn_ge m b.1 b.2 h)
    exact ⟨ih.1, fun p hp => ih.2 p (dn_good m b.1 b.2 h hp)⟩
theorem dnR_both {n : Nat} {N : Nat → Nat} : ∀ {es : List (Nat × Nat)} {L : Nat → Nat}, (∀ e ∈ es, N e.1 = N e.2) → (∀ e ∈ es, e.1 < n ∧ e.2 < n) → (∀ p, p < n → N p ≤ L p) → ∀ e ∈ es, (L e.1 = N e.1 ∨ L e.2 = N e.2) → dnR es L e.1 = N e.1 ∧ dnR es L e.2 = N e.2
  | f :: es, L, hm, hn, h, e, he, q => by
    have m := hm f (List.mem_cons_self ..)
    have b := hn f (List.mem_cons_self ..)
    have hm' : ∀ e ∈ es, N e.1 = N e.2 := fun f hf => hm f (List.mem_cons_of_mem _ hf)
    have hn' : ∀ e ∈ es, e.1 < n ∧ e.2 < n := fun f hf => hn f (List.mem_cons_of_mem _ hf)
    have g := dn_ge m b.1 b.2 h
    have kp := dnR_keep hm' hn' g
    rcases List.mem_cons.mp he with rfl | he'
    · have a1 := h e.1 b.1
      have a2 := h e.2 b.2
      have z1 : dn L e e.1 = N e.1 := by
        unfold dn
        split
        · omega
        · rw [if_pos rfl]; omega
      have z2 : dn L e e.2 = N e.2 := by
        unfold dn
        rw [if_pos rfl]; omega
      exact ⟨kp.2 _ z1, kp.2 _ z2⟩
    · exact dnR_both hm' hn' g e he' (q.imp (dn_good m b.1 b.2 h) (dn_good m b.1 b.2 h))
noncomputable def badL (n : Nat) (N L : Nat → Nat) : Nat := ((List.range n).filter fun p => decide (L p ≠ N p)).length
theorem dn_all {n : Nat} {es : List (Nat × Nat)} (hn : ∀ e ∈ es, e.1 < n ∧ e.2 < n) : ∀ k, (∀ p, p < n → mk n es p ≤ dnN es k (fun p => p) p) ∧ (∀ p, p < n → mk n es p = p → dnN es k (fun p => p) p = mk n es p) ∧ (badL n (mk n es) (dnN es k fun p => p) = 0 ∨ badL n (mk n es) (dnN es k fun p => p) + k ≤ n)
  | 0 => ⟨fun p hp => mk_le hn hp, fun p _ h => h.symm, .inr (by
      have := List.length_filter_le (fun p => decide (dnN es 0 (fun p => p) p ≠ mk n es p)) (List.range n)
      rw [List.length_range] at this
      unfold badL; omega)⟩
  | k + 1 => by
    obtain ⟨ge, rt, bd⟩ := dn_all hn k
    have hm := mk_ends hn
    show (∀ p, p < n → _ ≤ dnR es (dnN es k fun p => p) p) ∧ (∀ p, p < n → _ → dnR es (dnN es k fun p => p) p = _) ∧ (badL n (mk n es) (dnR es (dnN es k fun p => p)) = 0 ∨ badL n (mk n es) (dnR es (dnN es k fun p => p)) + (k + 1) ≤ n)
    generalize dnN es k (fun p => p) = L at *
    have kp := dnR_keep hm hn ge
    refine ⟨kp.1, fun p hp h => kp.2 p (rt p hp h), ?_⟩
    by_cases hz : badL n (mk n es) L = 0
    · left
      have e : (List.range n).filter (fun p => decide (L p ≠ mk n es p)) = [] := List.length_eq_zero_iff.mp hz
      rw [List.filter_eq_nil_iff] at e
      unfold badL
      rw [List.length_eq_zero_iff, List.filter_eq_nil_iff]
      intro p hp z
      have := e p hp
      simp only [decide_eq_true_eq, ne_eq, Decidable.not_not] at this z
      exact z (kp.2 p this)
    · right
      have ⟨p, hp⟩ : ∃ p, p ∈ (List.range n).filter (fun p => decide (L p ≠ mk n es p)) := List.exists_mem_of_ne_nil _ fun z => hz (by unfold badL; rw [z]; rfl)
      rw [List.mem_filter, List.mem_range] at hp
      simp only [decide_eq_true_eq] at hp
      obtain ⟨hp, hb⟩ := hp
      have cr : ∃ e ∈ es, ((L e.1 = mk n es e.1 ∧ mk n es e.1 = mk n es p) ∧ L e.2 ≠ mk n es e.2) ∨ ((L e.2 = mk n es e.2 ∧ mk n es e.2 = mk n es p) ∧ L e.1 ≠ mk n es e.1) := by
        refine Classical.byContradiction fun no => hb ?_
        have cl : Cl es fun q => L q = mk n es q ∧ mk n es q = mk n es p := fun e he => by
          constructor
          · rintro ⟨a, b⟩
            refine Classical.byContradiction fun z => no ⟨e, he, .inl ⟨⟨a, b⟩, fun y => z ⟨y, by rw [← hm e he]; exact b⟩⟩⟩
          · rintro ⟨a, b⟩
            refine Classical.byContradiction fun z => no ⟨e, he, .inr ⟨⟨a, b⟩, fun y => z ⟨y, by rw [hm e he]; exact b⟩⟩⟩
        exact ((mk_cl hn cl hp).mpr ⟨rt _ (mk_lt hn hp) (mk_mk hn hp), mk_mk hn hp⟩).1
      obtain ⟨e, he, cr⟩ := cr
      have be := hn e he
      have less : badL n (mk n es) (dnR es L) < badL n (mk n es) L := by
        refine len_less (fun a _ h => ?_) ?_
        · simp only [decide_eq_true_eq] at h ⊢
          exact fun z => h (kp.2 a z)
        · rcases cr with ⟨⟨a, _⟩, b⟩ | ⟨⟨a, _⟩, b⟩
          · exact ⟨e.2, List.mem_range.mpr be.2, by simpa using b, by simpa using (dnR_both hm hn ge e he (.inl a)).2⟩
          · exact ⟨e.1, List.mem_range.mpr be.1, by simpa using b, by simpa using (dnR_both hm hn ge e he (.inr a)).1⟩
      rcases bd with bd | bd
      · exact absurd bd hz
      · omega
theorem dn_marks {n : Nat} {es : List (Nat × Nat)} (hn : ∀ e ∈ es, e.1 < n ∧ e.2 < n) {p : Nat} (hp : p < n) : dnN es n (fun p => p) p = mk n es p := by
  obtain ⟨_, _, h⟩ := dn_all hn n
  have hz : badL n (mk n es) (dnN es n fun p => p) = 0 := by omega
  have e : (List.range n).filter (fun p => decide (dnN es n (fun p => p) p ≠ mk n es p)) = [] := List.length_eq_zero_iff.mp hz
  rw [List.filter_eq_nil_iff] at e
  have := e p (List.mem_range.mpr hp)
  simpa using this
end Hue
set_option Elab.async false
set_option linter.all false
set_option maxRecDepth 100000
set_option maxHeartbeats 1000000
namespace Rf
open PySem L2
noncomputable def PartsNSp (s : Sn) : Prop := ∀ {n : Nat} {es : List (Nat × Nat)} {S : Sto} {Q : QE}, (∀ e ∈ es, e.1 < e.2 ∧ e.2 < n) → es.length ≤ 1000 → n ≤ 1000 →
  (∀ (ls : List Nat) (l : Nat) (S' : Sto), Gw S S' → S'[l]? = some (.lst (ls.map SV.loc)) → ls.length = Hue.roots n es → Q (.loc l) S') → s [webS n es] S Q
theorem bring_low {ms : List Nat} {e : Nat × Nat} {a b : Nat} (ha : ms[e.1]? = some a) (hb : ms[e.2]? = some b) : Hue.bring ms e = ms.map (lowM a b) := by
  have g1 : ms.getD e.1 0 = a := by rw [List.getD_eq_getElem?_getD, ha]; rfl
  have g2 : ms.getD e.2 0 = b := by rw [List.getD_eq_getElem?_getD, hb]; rfl
  unfold Hue.bring Hue.highO Hue.lowO
  rw [g1, g2]
  rfl
noncomputable def rootsTo (ms : List Nat) (i : Nat) : Nat := ((List.range i).filter fun p => decide (ms.getD p 0 = p)).length
theorem rootsTo_succ (ms : List Nat) (i : Nat) : rootsTo ms (i + 1) = rootsTo ms i + if ms.getD i 0 = i then 1 else 0 := by
  unfold rootsTo
  rw [List.range_succ, List.filter_append, List.length_append, List.filter_cons]
  by_cases h : ms.getD i 0 = i
  · rw [if_pos h, if_pos (by simpa using h)]; rfl
  · rw [if_neg h, if_neg (by simpa using h)]; rfl
theorem rootsTo_le (ms : List Nat) (i : Nat) : rootsTo ms i ≤ i := by
  have := List.length_filter_le (fun p => decide (ms.getD p 0 = p)) (List.range i)
  rw [List.length_range] at this
  exact this
theorem partsN_end {Δ : Nat → Sn} (hΔ : ∀ f, MonoN (Δ f)) {n k : Nat} {es : List (Nat × Nat)} {S0 S : Sto} {Q : QE} {ms : List Nat} {o2 o3 o4 o5 : Option SV} (hn : n ≤ 1000) (hm : ms.length = n) (G : Gw S0 S) (hk : S[k]? = some (.lst (natS ms)))
    (q : ∀ (ls : List Nat) (l : Nat) (S' : Sto), Gw S0 S' → S'[l]? = some (.lst (ls.map SV.loc)) → ls.length = rootsTo ms n → Q (.loc l) S') : wSs Δ [g3'] (endsOf Q) [some (webS n es), some (.loc k), o2, o3, o4, o5] S := by
  refine ⟨_, rfl, _, _, rfl, rfl, _, rfl, ⟨by omega, by omega⟩, ?_⟩
  refine turns_inv (eo_mono hΔ _).2 (ex_mono hΔ _).1 (fun i ys S' => Gw S S' ∧ ∃ ls : List Nat, ys = ls.map SV.loc ∧ ls.length = rootsTo ms i) ⟨Gw.refl S, [], rfl, rfl⟩ (fun _ _ _ _ => trivial) ?_ ?_
  · rintro i x ys S' hx ⟨G', ls, rfl, hl⟩
    obtain ⟨rfl, hi⟩ := rng_get hx
    rw [Int.zero_add] at hi ⊢
    have hil : i < ms.length := by rw [hm]; omega
    have hmi := List.getElem?_eq_getElem hil
    have hg : ms.getD i 0 = ms[i] := by rw [List.getD_eq_getElem?_getD, hmi]; rfl
    have hle := rootsTo_le ms i
    have hs := rootsTo_succ ms i
    rw [hg] at hs
    refine ⟨_, rfl, _, rfl, _, _, seq_loc (G'.keep _ _ hk), atI_nat (natS_get hmi), _, rfl, _, rfl, ifD (fun h => ?_) (fun h => ?_)⟩
    · have h : ms[i] = i := Int.natCast_inj.mp h
      rw [if_pos h] at hs
      refine ⟨_, rfl, _, _, rfl, rfl, _, rfl, ⟨by omega, by omega⟩, ?_⟩
      refine turns_inv (eo_mono hΔ _).2 (ex_mono hΔ _).1 (fun j zs S2 => S2 = S' ∧ zs.length ≤ j) ⟨rfl, Nat.zero_le _⟩ (fun _ _ _ _ => trivial) ?_ ?_
      · rintro j y zs S2 hy ⟨rfl, hz⟩
        obtain ⟨rfl, hj⟩ := rng_get hy
        rw [Int.zero_add] at hj ⊢
        have hjl : j < ms.length := by rw [hm]; omega
        have hmj := List.getElem?_eq_getElem hjl
        refine ⟨_, rfl, _, rfl, _, _, seq_loc (G'.keep _ _ hk), atI_nat (natS_get hmj), _, rfl, _, rfl, ifD (fun h => ?_) (fun h => ⟨rfl, by omega⟩)⟩
        exact ⟨_, rfl, by show _ < 100000; omega, rfl, by rw [List.length_append]; simp; exact hz⟩
      · rintro zs S2 ⟨rfl, hz⟩
        refine ⟨by rw [List.length_map]; show _ < 100000; omega, G'.push, ls ++ [S2.length], by rw [List.map_append]; rfl, by rw [List.length_append, hl, hs]; rfl⟩
    · have h : ¬ ms[i] = i := fun z => h (congrArg _ z)
      rw [if_neg h] at hs
      exact ⟨G', ls, rfl, by rw [hl, hs]; rfl⟩
  · rintro ys S' ⟨G', ls, rfl, hl⟩
    rw [rng_len] at hl
    exact q ls _ _ (G.trans G').push at_new (by rw [hl]; rfl)
theorem partsN_sp {Δ : Nat → Sn} (hΔ : ∀ f, MonoN (Δ f)) {D : Df} (hb : D.body = bParts) (hN : D.N.length = 6) (hp : D.ps.length = 1) : PartsNSp (wDef Δ D) := by
  intro n es S Q hen hel hn q
  unfold wDef
  rw [hb, hN]
  refine ⟨hp.symm, _, rfl, _, _, rfl, rfl, _, rfl, ⟨by omega, by omega⟩, ?_⟩
  rw [rng_nat]
  refine ⟨_, rfl, _, _, rfl, rfl, _, rfl, ?_⟩
  refine loop_inv (ss_mono hΔ _) (fun i ρ S' => ∃ (ms : List Nat) (k : Nat) (o2 o3 o4 o5 : Option SV), ρ = [some (webS n es), some (.loc k), o2, o3, o4, o5] ∧ ms = (es.take i).foldl Hue.bring (List.range n) ∧ ms.length = n ∧ Gw S S' ∧ S'[k]? = some (.lst (natS ms)))
    ⟨List.range n, S.length, none, none, none, none, rfl, rfl, List.length_range, (Gw.refl S).push, at_new⟩ (fun _ _ _ _ => trivial) ?_ ?_
  · rintro i x ρ S' hx ⟨ms, k, o2, o3, o4, o5, rfl, e0, hm, G, hk⟩
    obtain ⟨e, he, rfl⟩ := pair_get hx
    have hee := hen e (List.mem_of_getElem? he)
    have h1 := List.getElem?_eq_getElem (show e.1 < ms.length by rw [hm]; omega)
    have h2 := List.getElem?_eq_getElem (show e.2 < ms.length by rw [hm]; omega)
    generalize ms[e.1]'(by rw [hm]; omega) = a at *
    generalize ms[e.2]'(by rw [hm]; omega) = b at *
    have e1 : ms.map (lowM a b) = (es.take (i + 1)).foldl Hue.bring (List.range n) := by
      rw [← bring_low h1 h2, List.take_succ, he, List.foldl_append, ← e0]; rfl
    refine ⟨_, rfl, _, rfl, _, _, seq_loc hk, atI_nat (natS_get h1), _, rfl, _, rfl, _, _, seq_loc hk, atI_nat (natS_get h2), ⟨_, rfl, _, rfl, _, _, seq_loc hk, atI_nat (natS_get h1), _, rfl, _, rfl, _, _, seq_loc hk, atI_nat (natS_get h2), bring_sp hΔ (min_nat a b) (max_nat a b) (by rw [hm]; exact hn) hk ?_⟩⟩
    exact ⟨_, _, _, _, _, _, rfl, e1, by rw [List.length_map, hm], G.push, at_new⟩
  · rintro ρ S' ⟨ms, k, o2, o3, o4, o5, rfl, e0, hm, G, hk⟩
    rw [List.length_map, List.take_length] at e0
    exact partsN_end hΔ hn hm G hk fun ls l S2 h1 h2 h3 => q ls l S2 h1 h2 (by rw [h3, e0]; rfl)
noncomputable def bOnly (k : Nat) : List Stm := [(.loop (.nm 2) (.seq (.var 1)) [(.expr (.call k (.cons (.var 0) (.cons (.var 2) .nil))))]), (.ret (.tup (.cons (.ix (.var 0) (.c (.int 0))) (.cons (.bi .tuple (.cons (.comp ["tie"] ["web"] [0] (.nm 0) (.seq (.var 1)) .no (.ix (.ix (.var 1) (.c (.int 1))) (.var 0))) .nil)) .nil))))]
noncomputable def OnlySp (s : Sn) : Prop := ∀ {n k : Nat} {es : List (Nat × Nat)} {js : List Nat} {S : Sto} {Q : QE}, S[k]? = some (.lst (natS js)) → js.length ≤ 1000 → (∀ j ∈ js, j < es.length) → (∀ (S' : Sto), Gw S S' → Q (webS n (js.map fun j => es.getD j (0, 0))) S') → s [webS n es, .loc k] S Q
theorem nat_get {xs : List Nat} {i : Nat} {x : SV} (h : (natS xs)[i]? = some x) : ∃ j, xs[i]? = some j ∧ x = .int j := by
  unfold natS at h
  rw [List.getElem?_map] at h
  cases hx : xs[i]? with
  | none => rw [hx] at h; cases h
  | some j => rw [hx] at h; exact ⟨j, rfl, (Option.some.inj h).symm⟩
theorem only_sp {Δ : Nat → Sn} (hΔ : ∀ f, MonoN (Δ f)) {kc : Nat} (hc : CheckTieSp (Δ kc)) {D : Df} (hb : D.body = bOnly kc) (hN : D.N.length = 3) (hp : D.ps.length = 2) : OnlySp (wDef Δ D) := by
  intro n k es js S Q hk hl hj q
  unfold wDef
  rw [hb, hN]
  refine ⟨hp.symm, _, rfl, _, seq_loc hk, ?_⟩
  refine loop_inv (ss_mono hΔ _) (fun i ρ S' => ∃ o, ρ = [some (webS n es), some (.loc k), o] ∧ S' = S) ⟨none, rfl, rfl⟩ (fun _ _ _ ⟨_, _, h⟩ => by rw [h]; exact rfl) ?_ ?_
  · rintro i x ρ S' hx ⟨o, rfl, rfl⟩
    obtain ⟨j, hji, rfl⟩ := nat_get hx
    exact ⟨_, rfl, _, rfl, hc (hj j (List.mem_of_getElem? hji)) ⟨_, rfl, rfl⟩⟩
  · rintro ρ S' ⟨o, rfl, rfl⟩
    refine ⟨_, rfl, _, _, rfl, rfl, _, rfl, _, seq_loc hk, ?_⟩
    refine turns_inv (eo_mono hΔ _).2 (ex_mono hΔ _).1 (fun i ys S2 => S2 = S' ∧ ys = ((js.take i).map fun j => es.getD j (0, 0)).map pairS) ⟨rfl, rfl⟩ (fun _ _ _ h => by rw [h.1]; exact rfl) ?_ ?_
    · rintro i x ys S2 hx ⟨rfl, rfl⟩
      obtain ⟨j, hji, rfl⟩ := nat_get hx
      have hjl := hj j (List.mem_of_getElem? hji)
      have hil := (List.getElem?_eq_some_iff.mp hji).1
      have he := List.getElem?_eq_getElem hjl
      refine ⟨_, rfl, _, _, rfl, rfl, _, rfl, _, pairS es[j], rfl, atI_nat (by rw [List.getElem?_map, he]; rfl), ?_⟩
      refine ⟨by rw [List.length_map, List.length_map, List.length_take]; show _ < 100000; omega, rfl, ?_⟩
      rw [List.take_succ, hji, List.map_append, List.map_append]
      congr 1
      show [pairS es[j]] = [pairS (es.getD j (0, 0))]
      rw [List.getD_eq_getElem?_getD, he]; rfl
    · rintro ys S2 ⟨rfl, rfl⟩
      rw [natS_len, List.take_length]
      exact ⟨_, seq_loc at_new, by show 2 ≤ big; decide, q _ (Gw.refl S2).push⟩
noncomputable def bWithout (kt ko : Nat) : List Stm := [(.asg (.nm 2) (.call kt (.cons (.var 0) (.cons (.var 1) .nil)))), (.ret (.call ko (.cons (.var 0) (.cons (.comp ["tie"] ["around"] [2] (.nm 0) (.rng1 (.bi .len (.cons (.ix (.var 0) (.c (.int 1))) .nil))) (.yes (.cmp .NotIn (.var 0) (.var 1))) (.var 0)) .nil))))]
noncomputable def WithoutSp (s : Sn) : Prop := ∀ {n p : Nat} {es : List (Nat × Nat)} {S : Sto} {Q : QE}, es.length ≤ 1000 → p < n → (∀ (S' : Sto), Gw S S' → Q (webS n (Hue.off p es)) S') → s [webS n es, .int p] S Q
noncomputable def offAt (es : List (Nat × Nat)) (p i : Nat) : List Nat := (List.range i).filter fun j => !(match es[j]? with | some e => decide (e.1 = p) || decide (e.2 = p) | none => false)
theorem range_getD (es : List (Nat × Nat)) : (List.range es.length).map (fun j => es.getD j (0, 0)) = es := by
  apply List.ext_getElem
  · simp
  · intro i h1 h2
    simp [List.getElem?_eq_getElem h2]
theorem offAt_map (es : List (Nat × Nat)) (p : Nat) : (offAt es p es.length).map (fun j => es.getD j (0, 0)) = Hue.off p es := by
  have e : offAt es p es.length = (List.range es.length).filter ((fun e : Nat × Nat => !(decide (e.1 = p) || decide (e.2 = p))) ∘ fun j => es.getD j (0, 0)) := by
    unfold offAt
    refine List.filter_congr fun j hj => ?_
    have hj := List.mem_range.mp hj
    show _ = !(decide ((es.getD j (0, 0)).1 = p) || decide ((es.getD j (0, 0)).2 = p))
    rw [List.getD_eq_getElem?_getD, List.getElem?_eq_getElem hj]; rfl
  rw [e, ← List.filter_map, range_getD]
  rfl
theorem in_nat (p : Nat) (xs : List Nat) : inS (.int p) (natS xs) = decide (p ∈ xs) := by
  rw [Bool.eq_iff_iff, decide_eq_true_eq]
  unfold inS natS
  rw [List.any_map, List.any_eq_true]
  constructor
  · rintro ⟨a, ha, h⟩
    have h : ((a : Int) == (p : Int)) = true := h
    rw [beq_iff_eq] at h
    have := Int.natCast_inj.mp h
    rw [← this]; exact ha
  · intro h
    exact ⟨p, h, by show ((p : Int) == (p : Int)) = true; simp⟩
theorem without_sp {Δ : Nat → Sn} (hΔ : ∀ f, MonoN (Δ f)) {kt ko : Nat} (ht : TiesAtSp (Δ kt)) (ho : OnlySp (Δ ko)) {D : Df} (hb : D.body = bWithout kt ko) (hN : D.N.length = 3) (hp : D.ps.length = 2) : WithoutSp (wDef Δ D) := by
  intro n p es S Q hl hpn q
  unfold wDef
  rw [hb, hN]
  refine ⟨hp.symm, _, rfl, _, rfl, ht (by omega) hpn ?_⟩
  have h1 : (S ++ [SO.lst (natS (tiesAt es p es.length))])[S.length]? = some (.lst (natS (tiesAt es p es.length))) := at_new
  have G1 : Gw S (S ++ [SO.lst (natS (tiesAt es p es.length))]) := (Gw.refl S).push
  generalize S ++ [SO.lst (natS (tiesAt es p es.length))] = S1 at *
  generalize S.length = l at *
  refine ⟨_, rfl, _, rfl, _, _, rfl, rfl, _, rfl, _, rfl, ⟨by rw [List.length_map]; omega, by rw [List.length_map]; omega⟩, ?_⟩
  refine turns_inv (eo_mono hΔ _).2 (ex_mono hΔ _).1 (fun i ys S2 => S2 = S1 ∧ ys = natS (offAt es p i)) ⟨rfl, rfl⟩ (fun _ _ _ _ => trivial) ?_ ?_
  · rintro i x ys S2 hx ⟨rfl, rfl⟩
    obtain ⟨rfl, hi⟩ := rng_get hx
    rw [Int.zero_add] at hi ⊢
    rw [List.length_map] at hi
    have hi : i < es.length := by omega
    have he := List.getElem?_eq_getElem hi
    have hlen : (offAt es p i).length ≤ i := by
      have := List.length_filter_le (fun j => !(match es[j]? with | some e => decide (e.1 = p) || decide (e.2 = p) | none => false)) (List.range i)
      rw [List.length_range] at this
      exact this
    have hs : offAt es p (i + 1) = offAt es p i ++ if (i ∈ tiesAt es p es.length) then [] else [i] := by
      unfold offAt
      rw [List.range_succ, List.filter_append]
      congr 1
      rw [List.filter_cons, he]
      have hm : i ∈ tiesAt es p es.length ↔ (es[i].1 = p ∨ es[i].2 = p) := by
        rw [mem_tiesAt, he]
        exact ⟨fun ⟨e, z, y⟩ => by cases z; exact y, fun y => ⟨_, rfl, y⟩⟩
      by_cases hc : es[i].1 = p ∨ es[i].2 = p
      · rw [if_pos (hm.mpr hc), if_neg (by rcases hc with h | h <;> simp [h])]; rfl
      · rw [if_neg (fun z => hc (hm.mp z)), if_pos (by simpa using hc)]; rfl
    refine ⟨_, rfl, _, rfl, ?_⟩
    show match isetS (.loc l) S2 with | some ms => _ | none => _
    rw [iset_lst h1]
    refine ⟨rfl, _, seq_loc h1, natS_flat _, _, rfl, ?_⟩
    show if (!inS (.int i) (natS (tiesAt es p es.length))) = true then _ else _
    rw [in_nat]
    by_cases hm : i ∈ tiesAt es p es.length
    · rw [if_pos hm, List.append_nil] at hs
      exact ifF (by simpa using hm) ⟨rfl, by rw [hs]⟩
    · rw [if_neg hm] at hs
      exact ifT (by simpa using hm) ⟨_, rfl, by rw [natS_len]; show _ < 100000; omega, rfl, by rw [hs, natS_app]; rfl⟩
  · rintro ys S2 ⟨rfl, rfl⟩
    have e : (rngS 0 ((es.map pairS).length : Int)).length = es.length := by rw [rng_len, List.length_map]; omega
    rw [e]
    have hle : (offAt es p es.length).length ≤ es.length := by
      have := List.length_filter_le (fun j => !(match es[j]? with | some e => decide (e.1 = p) || decide (e.2 = p) | none => false)) (List.range es.length)
      rw [List.length_range] at this
      exact this
    refine ho at_new (by omega) (fun j hj => ?_) fun S3 G3 => ?_
    · unfold offAt at hj
      exact List.mem_range.mp (List.mem_filter.mp hj).1
    · rw [offAt_map]
      exact q S3 (G1.push.trans G3)
noncomputable def bCuts (kp kw : Nat) : List Stm := [(.asg (.nm 1) (.bi .len (.cons (.call kp (.cons (.var 0) .nil)) .nil))), (.ret (.comp ["place"] ["web", "count"] [0, 1] (.nm 0) (.rng1 (.ix (.var 0) (.c (.int 0)))) (.yes (.cmp .Gt (.bi .len (.cons (.call kp (.cons (.call kw (.cons (.var 1) (.cons (.var 0) .nil))) .nil)) .nil)) (.op .Add (.var 2) (.c (.int 1))))) (.var 0)))]
noncomputable def cutL (n : Nat) (es : List (Nat × Nat)) (i : Nat) : List Nat := (List.range i).filter fun x => decide (Hue.roots n es + 1 < Hue.roots n (Hue.off x es))
theorem cutL_succ (n : Nat) (es : List (Nat × Nat)) (i : Nat) : cutL n es (i + 1) = cutL n es i ++ if Hue.roots n es + 1 < Hue.roots n (Hue.off i es) then [i] else [] := by
  unfold cutL
  rw [List.range_succ, List.filter_append]
  congr 1
  rw [List.filter_cons]
  by_cases h : Hue.roots n es + 1 < Hue.roots n (Hue.off i es)
  · rw [if_pos h, if_pos (by simpa using h)]; rfl
  · rw [if_neg h, if_neg (by simpa using h)]; rfl
theorem cutL_len (n : Nat) (es : List (Nat × Nat)) (i : Nat) : (cutL n es i).length ≤ i := by
  have := List.length_filter_le (fun x => decide (Hue.roots n es + 1 < Hue.roots n (Hue.off x es))) (List.range i)
  rw [List.length_range] at this
  exact this
structure WebC (n : Nat) (es : List (Nat × Nat)) : Prop where
  en : ∀ e ∈ es, e.1 < e.2 ∧ e.2 < n
  len : es.length ≤ 400
  few : n ≤ 100
theorem off_len (x : Nat) (es : List (Nat × Nat)) : (Hue.off x es).length ≤ es.length := List.length_filter_le _ _
noncomputable def CutsSp (s : Sn) : Prop := ∀ {n : Nat} {es : List (Nat × Nat)} {S : Sto} {Q : QE}, WebC n es → (∀ (l : Nat) (S' : Sto), Gw S S' → S.length ≤ l → S'[l]? = some (.lst (natS (cutL n es n))) → Q (.loc l) S') → s [webS n es] S Q
theorem cuts_sp {Δ : Nat → Sn} (hΔ : ∀ f, MonoN (Δ f)) {kp kw : Nat} (hpa : PartsNSp (Δ kp)) (hw : WithoutSp (Δ kw)) {D : Df} (hb : D.body = bCuts kp kw) (hN : D.N.length = 2) (hp : D.ps.length = 1) : CutsSp (wDef Δ D) := by
  intro n es S Q H q
  have hl := H.len
  have hf := H.few
  unfold wDef
  rw [hb, hN]
  refine ⟨hp.symm, _, rfl, hpa H.en (by omega) (by omega) fun ls l S1 G1 h1 hr => ⟨_, seq_loc h1, ?_⟩⟩
  have er : ((ls.map SV.loc).length : Int) = (Hue.roots n es : Nat) := by rw [List.length_map, hr]
  suffices key : ∀ z : Int, z = (Hue.roots n es : Nat) → wSs Δ [(.ret (.comp ["place"] ["web", "count"] [0, 1] (.nm 0) (.rng1 (.ix (.var 0) (.c (.int 0)))) (.yes (.cmp .Gt (.bi .len (.cons (.call kp (.cons (.call kw (.cons (.var 1) (.cons (.var 0) .nil))) .nil)) .nil)) (.op .Add (.var 2) (.c (.int 1))))) (.var 0)))] (endsOf Q) [some (webS n es), some (.int z)] S1 from key _ er
  rintro _ rfl
  refine ⟨_, rfl, _, _, rfl, rfl, _, rfl, ⟨by omega, by omega⟩, ?_⟩
  refine turns_inv (eo_mono hΔ _).2 (ex_mono hΔ _).1 (fun i ys S2 => Gw S1 S2 ∧ ys = natS (cutL n es i)) ⟨Gw.refl _, rfl⟩ (fun _ _ _ _ => trivial) ?_ ?_
  · rintro i x ys S2 hx ⟨G2, rfl⟩
    obtain ⟨rfl, hi⟩ := rng_get hx
    rw [Int.zero_add] at hi ⊢
    have hi : i < n := by omega
    have hcl := cutL_len n es i
    have hs := cutL_succ n es i
    refine ⟨_, rfl, _, rfl, hw (by omega) hi fun S3 G3 => ?_⟩
    refine hpa (fun e he => H.en e (Hue.off_mem.mp he).1) (by have := off_len i es; omega) (by omega) fun ls2 l2 S4 G4 h4 hr4 => ⟨_, seq_loc h4, _, rfl, _, rfl, ?_⟩
    refine ifD (fun h => ?_) (fun h => ?_)
    · have h : (((ls2.map SV.loc).length : Nat) : Int) > (Hue.roots n es : Int) + 1 := h
      rw [List.length_map, hr4] at h
      rw [if_pos (by omega)] at hs
      exact ⟨_, rfl, by rw [natS_len]; show _ < 100000; omega, (G2.trans G3).trans G4, by rw [hs, natS_app]; rfl⟩
    · have h : ¬ ((((ls2.map SV.loc).length : Nat) : Int) > (Hue.roots n es : Int) + 1) := h
      rw [List.length_map, hr4] at h
      rw [if_neg (by omega), List.append_nil] at hs
      exact ⟨(G2.trans G3).trans G4, by rw [hs]⟩
  · rintro ys S2 ⟨G2, rfl⟩
    rw [rng_len]
    have := G1.len
    have := G2.len
    exact q _ _ (G1.trans G2).push (by omega) (by rw [show ((n : Int) - 0).toNat = n by omega]; exact at_new)
end Rf
set_option Elab.async false
set_option linter.all false
set_option maxRecDepth 100000
set_option maxHeartbeats 1000000
namespace Rf
open PySem L2
theorem dct_loc {k : Nat} {S : Sto} {kvs : List (Int × SV)} (h : S[k]? = some (.dct kvs)) : dctS (.loc k) S = some kvs := by simp only [dctS, h]
theorem dcf_loc {k : Nat} {S : Sto} {o : Obj} {ks : List (Key × V)} {kvs : List (Int × SV)} (h : S[k]? = some (.dcf o ks kvs)) : dctS (.loc k) S = some kvs := by simp only [dctS, h]
noncomputable def kvL (ks : List Nat) (L : Nat → Nat) : List (Int × SV) := ks.map fun (p : Nat) => ((p : Int), SV.int (L p))
theorem kv_get : ∀ {ks : List Nat} {L : Nat → Nat} {i : Nat}, i ∈ ks → dval (kvL ks L) i = some (.int (L i))
  | k :: ks, L, i, h => by
    unfold dval kvL
    rw [List.map_cons, List.find?_cons]
    by_cases hk : k = i
    · subst hk; simp
    · have hk' : ¬ ((k : Int) = (i : Int)) := fun z => hk (Int.natCast_inj.mp z)
      rw [decide_eq_false hk']
      rcases List.mem_cons.mp h with h | h
      · exact absurd h.symm hk
      · exact kv_get h
theorem kv_put {ks : List Nat} {L : Nat → Nat} {i v : Nat} (h : i ∈ ks) : dputL (kvL ks L) i (.int v) = kvL ks fun p => if p = i then v else L p := by
  unfold dputL kvL
  rw [if_pos (by rw [List.any_map, List.any_eq_true]; exact ⟨i, h, by simp⟩), List.map_map]
  refine List.map_congr_left fun p _ => ?_
  show (if (p : Int) = i then ((p : Int), SV.int v) else ((p : Int), SV.int (L p))) = ((p : Int), SV.int ((if p = i then v else L p : Nat) : Int))
  by_cases hp : p = i
  · subst hp; rw [if_pos rfl, if_pos rfl]
  · rw [if_neg (fun z => hp (Int.natCast_inj.mp z)), if_neg hp]
theorem kv_len {ks : List Nat} {L : Nat → Nat} : (kvL ks L).length = ks.length := by unfold kvL; rw [List.length_map]
theorem dputs_app : ∀ (more acc : List (Int × SV)), ((acc ++ more).map (·.1)).Nodup → more.foldl (fun acc p => dputL acc p.1 p.2) acc = acc ++ more
  | [], acc, _ => by simp
  | p :: more, acc, h => by
    have fresh : ¬ (acc.any fun q => decide (q.1 = p.1)) = true := by
      rw [List.any_eq_true]
      rintro ⟨q, hq, e⟩
      rw [List.map_append, List.map_cons, List.nodup_append] at h
      exact h.2.2 q.1 (List.mem_map.mpr ⟨q, hq, rfl⟩) p.1 (List.mem_cons_self ..) (of_decide_eq_true e)
    show more.foldl (fun acc p => dputL acc p.1 p.2) (dputL acc p.1 p.2) = _
    have e : dputL acc p.1 p.2 = acc ++ [p] := by unfold dputL; rw [if_neg fresh]
    rw [e, dputs_app more (acc ++ [p]) (by simpa using h)]
    simp
theorem dputs_kv {ks : List Nat} {L : Nat → Nat} (nd : ks.Nodup) : dputs (kvL ks L) = kvL ks L := by
  unfold dputs
  rw [dputs_app _ [] ?_]
  · rfl
  · unfold kvL
    rw [List.nil_append, List.map_map]
    exact List.Pairwise.map _ (fun a b (h : a ≠ b) (z : (a : Int) = (b : Int)) => h (Int.natCast_inj.mp z)) nd
noncomputable def keysI (z : Int) (i : Nat) : List Nat := (List.range i).filter fun p => !decide ((p : Int) = z)
noncomputable def offI (z : Int) (es : List (Nat × Nat)) : List (Nat × Nat) := es.filter fun e => !(decide ((e.1 : Int) = z) || decide ((e.2 : Int) = z))
theorem keysI_succ (z : Int) (i : Nat) : keysI z (i + 1) = keysI z i ++ if (i : Int) = z then [] else [i] := by
  unfold keysI
  rw [List.range_succ, List.filter_append]
  congr 1
  rw [List.filter_cons]
  by_cases h : (i : Int) = z
  · rw [if_pos h, if_neg (by simpa using h)]; rfl
  · rw [if_neg h, if_pos (by simpa using h)]; rfl
theorem keysI_len (z : Int) (i : Nat) : (keysI z i).length ≤ i := by
  have := List.length_filter_le (fun p : Nat => !decide ((p : Int) = z)) (List.range i)
  rw [List.length_range] at this
  exact this
theorem keysI_nd (z : Int) (i : Nat) : (keysI z i).Nodup := List.nodup_range.filter _
theorem mem_keysI {z : Int} {i p : Nat} : p ∈ keysI z i ↔ p < i ∧ (p : Int) ≠ z := by
  unfold keysI
  rw [List.mem_filter, List.mem_range]
  simp
theorem offI_mem {z : Int} {es : List (Nat × Nat)} {e : Nat × Nat} : e ∈ offI z es ↔ e ∈ es ∧ (e.1 : Int) ≠ z ∧ (e.2 : Int) ≠ z := by
  unfold offI
  rw [List.mem_filter]
  simp
theorem offI_nat (x : Nat) (es : List (Nat × Nat)) : offI x es = Hue.off x es := by
  unfold offI Hue.off
  refine List.filter_congr fun e _ => ?_
  have k : ∀ a : Nat, decide ((a : Int) = (x : Int)) = decide (a = x) := fun a => by rw [decide_eq_decide]; exact Int.natCast_inj
  rw [k, k]
theorem offI_neg (es : List (Nat × Nat)) : offI (-1) es = es := by
  unfold offI
  rw [List.filter_eq_self]
  intro e _
  have k : ∀ a : Nat, decide ((a : Int) = -1) = false := fun a => decide_eq_false (by omega)
  rw [k, k]; rfl
noncomputable def stepI (z : Int) (L : Nat → Nat) (e : Nat × Nat) : Nat → Nat := if (e.1 : Int) = z ∨ (e.2 : Int) = z then L else Hue.dn L e
theorem fold_stepI (z : Int) : ∀ (es : List (Nat × Nat)) (L : Nat → Nat), es.foldl (stepI z) L = Hue.dnR (offI z es) L
  | [], _ => rfl
  | e :: es, L => by
    have ih := fold_stepI z es
    show es.foldl (stepI z) (stepI z L e) = _
    rw [ih]
    unfold offI stepI
    rw [List.filter_cons]
    by_cases h : (e.1 : Int) = z ∨ (e.2 : Int) = z
    · rw [if_pos h, if_neg (by rcases h with h | h <;> simp [h])]
    · rw [if_neg h, if_pos (by simpa using h)]
      rfl
noncomputable def bsA : Stm := (.asg (.nm 2) (.dctl (.comp ["_law_place"] ["_law_out"] [1] (.nm 0) (.rng1 (.ix (.var 0) (.c (.int 0)))) (.yes (.cmp .NotEq (.var 0) (.var 1))) (.tup (.cons (.var 0) (.cons (.var 0) .nil))))))
noncomputable def bsI : Stm := (.iff (.cmp .NotIn (.var 1) (.tup (.cons (.var 4) (.cons (.var 5) .nil)))) [(.asg (.nm 6) (.bi .min (.cons (.dget (.var 2) (.var 4)) (.cons (.dget (.var 2) (.var 5)) .nil)))), (.dput (.var 2) (.var 4) (.var 6)), (.dput (.var 2) (.var 5) (.var 6))] [])
noncomputable def bsL : Stm := (.loop (.tup (.cons (.nm 4) (.cons (.nm 5) .nil))) (.seq (.ix (.var 0) (.c (.int 1)))) [bsI])
noncomputable def bsR : Stm := (.loop (.nm 3) (.rng1 (.ix (.var 0) (.c (.int 0)))) [bsL])
noncomputable def bBeside : List Stm := [bsA, bsR, (.ret (.var 2))]
theorem in_pairI (z : Int) (e : Nat × Nat) : inS (.int z) [.int e.1, .int e.2] = (decide ((e.1 : Int) = z) || decide ((e.2 : Int) = z)) := by
  have k : ∀ a : Int, (a == z) = decide (a = z) := fun a => by rw [Bool.eq_iff_iff]; simp
  unfold inS
  simp only [List.any_cons, List.any_nil, Bool.or_false, eqF, k]
section
variable {Δ : Nat → Sn}
theorem beside_turn {D : EndsS} {m : Nat} {z : Int} {e : Nat × Nat} {ks : List Nat} {L : Nat → Nat} {S0 S : Sto} {w : SV} {o3 o6 : Option SV} (hm : S[m]? = some (.dct (kvL ks L))) (hk : ks.length ≤ 1000) (he : (e.1 : Int) ≠ z → (e.2 : Int) ≠ z → e.1 ∈ ks ∧ e.2 ∈ ks) (G : Gw S0 S) (hS : S0.length ≤ m)
    (q : ∀ (o6 : Option SV) (S' : Sto), S'[m]? = some (.dct (kvL ks (stepI z L e))) → Gw S0 S' → D.nx [some w, some (.int z), some (.loc m), o3, some (.int e.1), some (.int e.2), o6] S') :
    wSs Δ [bsI] D [some w, some (.int z), some (.loc m), o3, some (.int e.1), some (.int e.2), o6] S := by
  refine ⟨_, rfl, _, rfl, _, rfl, by show 2 ≤ big; decide, rfl, _, rfl, rfl, _, rfl, ?_⟩
  show if (!inS (.int z) [.int e.1, .int e.2]) = true then _ else _
  rw [in_pairI]
  by_cases h : (e.1 : Int) = z ∨ (e.2 : Int) = z
  · refine ifF (by rcases h with h | h <;> simp [h]) (q _ S ?_ G)
    unfold stepI
    rw [if_pos h]
    exact hm
  · have h1 : (e.1 : Int) ≠ z := fun y => h (.inl y)
    have h2 : (e.2 : Int) ≠ z := fun y => h (.inr y)
    obtain ⟨m1, m2⟩ := he h1 h2
    have kb : ∀ L, (kvL ks L).length < big := fun L => by rw [kv_len]; show _ < 100000; omega
    refine ifT (by simp [h1, h2]) ?_
    refine ⟨_, rfl, _, rfl, _, _, _, dct_loc hm, rfl, kv_get m1, _, rfl, _, rfl, _, _, _, dct_loc hm, rfl, kv_get m2, ?_⟩
    have key : ∀ v : Int, v = ((min (L e.1) (L e.2) : Nat) : Int) → wSs Δ [(.dput (.var 2) (.var 4) (.var 6)), (.dput (.var 2) (.var 5) (.var 6))] D [some w, some (.int z), some (.loc m), o3, some (.int e.1), some (.int e.2), some (.int v)] S := by
      rintro _ rfl
      refine ⟨_, rfl, _, rfl, _, rfl, _, _, _, rfl, rfl, .inl hm, kb _, ?_⟩
      rw [kv_put m1]
      refine ⟨_, rfl, _, rfl, _, rfl, _, _, _, rfl, rfl, .inl (at_self hm), kb _, ?_⟩
      rw [kv_put m2]
      refine q _ _ ?_ ((G.put hS).put hS)
      rw [at_self (at_self hm)]
      unfold stepI
      rw [if_neg h]
      rfl
    exact key _ (min_nat _ _)
noncomputable def BesideSp (s : Sn) : Prop := ∀ {n : Nat} {es : List (Nat × Nat)} {z : Int} {S : Sto} {Q : QE}, WebC n es → (∀ (l : Nat) (S' : Sto), Gw S S' → S.length ≤ l → S'[l]? = some (.dct (kvL (keysI z n) (Hue.mk n (offI z es)))) → Q (.loc l) S') → s [webS n es, .int z] S Q
theorem beside_rounds (hΔ : ∀ f, MonoN (Δ f)) {n m : Nat} {es : List (Nat × Nat)} {z : Int} {S0 S : Sto} {Q : QE} (H : WebC n es) (hm : S[m]? = some (.dct (kvL (keysI z n) fun p => p))) (G : Gw S0 S) (hS : S0.length ≤ m)
    (q : ∀ (S' : Sto), Gw S0 S' → S'[m]? = some (.dct (kvL (keysI z n) (Hue.mk n (offI z es)))) → Q (.loc m) S') : wSs Δ [bsR, (.ret (.var 2))] (endsOf Q) [some (webS n es), some (.int z), some (.loc m), none, none, none, none] S := by
  have hf := H.few
  have hkl : (keysI z n).length ≤ 1000 := by have := keysI_len z n; omega
  refine ⟨_, rfl, _, _, rfl, rfl, _, rfl, ⟨by omega, by omega⟩, ?_⟩
  refine loop_inv (ss_mono hΔ _) (fun i ρ S' => ∃ o3 o4 o5 o6, ρ = [some (webS n es), some (.int z), some (.loc m), o3, o4, o5, o6] ∧ Gw S0 S' ∧ S'[m]? = some (.dct (kvL (keysI z n) (Hue.dnN (offI z es) i fun p => p)))) ⟨none, none, none, none, rfl, G, hm⟩ (fun _ _ _ _ => trivial) ?_ ?_
  · rintro i x ρ S1 hx ⟨o3, o4, o5, o6, rfl, G1, h1⟩
    refine ⟨_, rfl, _, _, rfl, rfl, _, rfl, ?_⟩
    refine loop_inv (ss_mono hΔ _) (fun j ρ S' => ∃ o4 o5 o6, ρ = [some (webS n es), some (.int z), some (.loc m), some x, o4, o5, o6] ∧ Gw S0 S' ∧ S'[m]? = some (.dct (kvL (keysI z n) ((es.take j).foldl (stepI z) (Hue.dnN (offI z es) i fun p => p))))) ⟨o4, o5, o6, rfl, G1, h1⟩ (fun _ _ _ _ => trivial) ?_ ?_
    · rintro j y ρ S2 hy ⟨p4, p5, p6, rfl, G2, h2⟩
      obtain ⟨e, he, rfl⟩ := pair_get hy
      have hee := H.en e (List.mem_of_getElem? he)
      refine beside_turn h2 hkl (fun n1 n2 => ⟨mem_keysI.mpr ⟨by omega, n1⟩, mem_keysI.mpr ⟨by omega, n2⟩⟩) G2 hS fun o6 S3 h3 G3 => ⟨_, _, _, rfl, G3, ?_⟩
      rw [List.take_succ, he, List.foldl_append]
      exact h3
    · rintro ρ S2 ⟨p4, p5, p6, rfl, G2, h2⟩
      rw [List.length_map, List.take_length, fold_stepI] at h2
      exact ⟨_, _, _, _, rfl, G2, h2⟩
  · rintro ρ S1 ⟨o3, o4, o5, o6, rfl, G1, h1⟩
    rw [rng_len, show ((n : Int) - 0).toNat = n by omega] at h1
    refine ⟨_, rfl, q S1 G1 ?_⟩
    rw [h1]
    congr 2
    unfold kvL
    refine List.map_congr_left fun p hp => ?_
    rw [Hue.dn_marks (fun e he => ?_) (mem_keysI.mp hp).1]
    have := H.en e (offI_mem.mp he).1
    exact ⟨by omega, by omega⟩
theorem beside_sp (hΔ : ∀ f, MonoN (Δ f)) {D : Df} (hb : D.body = bBeside) (hN : D.N.length = 7) (hp : D.ps.length = 2) : BesideSp (wDef Δ D) := by
  intro n es z S Q H q
  have hf := H.few
  unfold wDef
  rw [hb, hN]
  refine ⟨hp.symm, _, rfl, _, _, rfl, rfl, _, rfl, ⟨by omega, by omega⟩, ?_⟩
  refine turns_inv (eo_mono hΔ _).2 (ex_mono hΔ _).1 (fun i ys S2 => S2 = S ∧ ys = (kvL (keysI z i) fun p => p).map fun p => SV.tup [.int p.1, p.2]) ⟨rfl, by simp [keysI, kvL]⟩ (fun _ _ _ _ => trivial) ?_ ?_
  · rintro i x ys S2 hx ⟨rfl, rfl⟩
    obtain ⟨rfl, hi⟩ := rng_get hx
    rw [Int.zero_add] at hi ⊢
    have hs := keysI_succ z i
    have hkl := keysI_len z i
    refine ⟨_, rfl, _, rfl, _, rfl, ?_⟩
    show if (!((i : Int) == z)) = true then _ else _
    by_cases h : (i : Int) = z
    · rw [if_pos h, List.append_nil] at hs
      exact ifF (by simp [h]) ⟨rfl, by rw [hs]⟩
    · rw [if_neg h] at hs
      refine ifT (by simp [h]) ⟨_, rfl, _, rfl, by show 2 ≤ big; decide, by rw [List.length_map, kv_len]; show _ < 100000; omega, rfl, ?_⟩
      rw [hs]
      unfold kvL
      rw [List.map_append, List.map_append]
      rfl
  · rintro ys S2 ⟨rfl, rfl⟩
    rw [rng_len, show ((n : Int) - 0).toNat = n by omega]
    have hkl := keysI_len z n
    refine ⟨_, _, rfl, at_new, by rw [kv_len]; omega, ?_⟩
    rw [dputs_kv (keysI_nd z n)]
    refine beside_rounds hΔ H at_new (Gw.refl S2).push.push (by rw [List.length_append]; omega) fun S' G h => q _ S' G (by rw [List.length_append]; omega) h
end
end Rf
set_option Elab.async false
set_option linter.all false
set_option maxRecDepth 100000
set_option maxHeartbeats 1000000
namespace Rf
open PySem L2
theorem met_nd (f : Nat → Int) : ∀ i, (PyProof.Rows.firstMet f i).Nodup
  | 0 => by rw [PyProof.Rows.firstMet_zero]; exact List.nodup_nil
  | i + 1 => by
    rw [PyProof.Rows.firstMet_succ]
    unfold PyProof.Rows.step_dedup
    split
    · exact met_nd f i
    · rename_i h
      rw [List.nodup_append]
      refine ⟨met_nd f i, by simp, fun a ha b hb => ?_⟩
      rw [List.mem_singleton.mp hb]
      intro z
      exact h (List.any_eq_true.mpr ⟨a, ha, by simp [z]⟩)
theorem once_two (ns : List Int) : 1 < (once ns).length ↔ ∃ a b, a ∈ ns ∧ b ∈ ns ∧ a ≠ b := by
  have mem : ∀ k, k ∈ once ns ↔ k ∈ ns := once_mem ns
  constructor
  · intro h
    obtain ⟨a, b, ha, hb, ne⟩ := Hue.two_of_len (met_nd _ _) h
    exact ⟨a, b, (mem a).mp ha, (mem b).mp hb, ne⟩
  · rintro ⟨a, b, ha, hb, ne⟩
    exact Hue.len_of_two ((mem a).mpr ha) ((mem b).mpr hb) ne
theorem int_nat : ∀ (xs : List Nat), intS (natS xs) = some (xs.map fun (i : Nat) => (i : Int))
  | [] => rfl
  | x :: xs => by
    show (intS (natS xs)).map (((x : Nat) : Int) :: ·) = _
    rw [int_nat xs]; rfl
noncomputable def parted (n : Nat) (es : List (Nat × Nat)) (x : Nat) : List Nat := (keysI x n).filter fun p => decide (Hue.mk n es p = Hue.mk n es x)
theorem mem_parted {n x p : Nat} {es : List (Nat × Nat)} : p ∈ parted n es x ↔ p < n ∧ p ≠ x ∧ Hue.mk n es p = Hue.mk n es x := by
  unfold parted
  rw [List.mem_filter, mem_keysI, decide_eq_true_eq]
  exact ⟨fun ⟨⟨a, b⟩, c⟩ => ⟨a, fun z => b (by rw [z]), c⟩, fun ⟨a, b, c⟩ => ⟨⟨a, fun z => b (Int.natCast_inj.mp z)⟩, c⟩⟩
theorem parted_two {n x : Nat} {es : List (Nat × Nat)} (hn : ∀ e ∈ es, e.1 < n ∧ e.2 < n) (hx : x < n) : 1 < (once (((parted n es x).map (Hue.mk n (Hue.off x es))).map fun (i : Nat) => (i : Int))).length ↔ Hue.roots n es + 1 < Hue.roots n (Hue.off x es) := by
  rw [once_two, Hue.cut_count hn hx]
  constructor
  · rintro ⟨a, b, ha, hb, ne⟩
    rw [List.map_map, List.mem_map] at ha hb
    obtain ⟨p, hp, rfl⟩ := ha
    obtain ⟨q, hq, rfl⟩ := hb
    exact ⟨p, q, mem_parted.mp hp, mem_parted.mp hq, fun z => ne (congrArg (fun (i : Nat) => (i : Int)) z)⟩
  · rintro ⟨p, q, hp, hq, ne⟩
    refine ⟨_, _, List.mem_map.mpr ⟨_, List.mem_map.mpr ⟨p, mem_parted.mpr hp, rfl⟩, rfl⟩, List.mem_map.mpr ⟨_, List.mem_map.mpr ⟨q, mem_parted.mpr hq, rfl⟩, rfl⟩, fun z => ne (Int.natCast_inj.mp z)⟩
noncomputable def lcP : Stm := (.asg (.nm 5) (.comp ["_law_place"] ["_law_whole", "_law_out"] [1, 3] (.nm 0) (.dk (.var 4)) (.yes (.cmp .Eq (.dget (.var 1) (.var 0)) (.dget (.var 1) (.var 2)))) (.var 0)))
noncomputable def lcI : Stm := (.iff (.cmp .Gt (.lenset (.comp ["_law_place"] ["_law_marks"] [4] (.nm 0) (.seq (.var 5)) .no (.dget (.var 1) (.var 0)))) (.c (.int 1))) [(.expr (.mt .append (.var 2) (.cons (.var 3) .nil)))] [])
noncomputable def lcA (kb : Nat) : Stm := (.asg (.nm 4) (.call kb (.cons (.var 0) (.cons (.var 3) .nil))))
noncomputable def bLawCuts (kb : Nat) : List Stm := [(.asg (.nm 1) (.call kb (.cons (.var 0) (.cons (.neg (.c (.int 1))) .nil)))), (.asg (.nm 2) (.lst .nil)), (.loop (.nm 3) (.rng1 (.ix (.var 0) (.c (.int 0)))) [lcA kb, lcP, lcI]), (.ret (.var 2))]
section
variable {Δ : Nat → Sn}
theorem keys_get {ks : List Nat} {L : Nat → Nat} {i : Nat} {x : SV} (h : ((kvL ks L).map fun p => SV.int p.1)[i]? = some x) : ∃ p, ks[i]? = some p ∧ x = .int p := by
  unfold kvL at h
  rw [List.map_map, List.getElem?_map] at h
  cases hx : ks[i]? with
  | none => rw [hx] at h; cases h
  | some j => rw [hx] at h; exact ⟨j, rfl, (Option.some.inj h).symm⟩
theorem take_filter {α : Type} {P : α → Bool} {xs : List α} {j : Nat} {x : α} (h : xs[j]? = some x) : (xs.take (j + 1)).filter P = (xs.take j).filter P ++ if P x = true then [x] else [] := by
  rw [List.take_succ, h, List.filter_append]
  congr 1
  show List.filter P [x] = _
  rw [List.filter_cons]; rfl
theorem lcP_sp (hΔ : ∀ f, MonoN (Δ f)) {D : EndsS} {rest : List Stm} {n i lw lm : Nat} {es : List (Nat × Nat)} {N : Nat → Nat} {S : Sto} {w : SV} {o2 o5 : Option SV} (hf : n ≤ 100) (hi : i < n) (hw : S[lw]? = some (.dct (kvL (keysI (-1) n) (Hue.mk n es)))) (hm : S[lm]? = some (.dct (kvL (keysI i n) N))) (ne : lw ≠ lm)
    (q : ∀ (o : Obj) (ks : List (Key × V)) (S' : Sto) (lp : Nat), S' = S.set lm (.dcf o ks (kvL (keysI i n) N)) ++ [.lst (natS (parted n es i))] → lp = S.length → wSs Δ rest D [some w, some (.loc lw), o2, some (.int i), some (.loc lm), some (.loc lp)] S') :
    wSs Δ (lcP :: rest) D [some w, some (.loc lw), o2, some (.int i), some (.loc lm), o5] S := by
  refine ⟨_, rfl, _, _, rfl, hm, fun o ks => ?_⟩
  have hkl := keysI_len i n
  have hm2 : (S.set lm (.dcf o ks (kvL (keysI i n) N)))[lm]? = some (.dcf o ks (kvL (keysI i n) N)) := at_self hm
  have hw2 : (S.set lm (.dcf o ks (kvL (keysI i n) N)))[lw]? = some (.dct (kvL (keysI (-1) n) (Hue.mk n es))) := by rw [at_ne (Ne.symm ne)]; exact hw
  have hl2 : (S.set lm (.dcf o ks (kvL (keysI i n) N))).length = S.length := List.length_set ..
  have q := q o ks
  generalize S.set lm (.dcf o ks (kvL (keysI i n) N)) = S2 at *
  refine turns_inv (eo_mono hΔ _).2 (ex_mono hΔ _).1 (fun j ys S3 => S3 = S2 ∧ ys = natS (((keysI i n).take j).filter fun p => decide (Hue.mk n es p = Hue.mk n es i))) ⟨rfl, rfl⟩ (fun _ _ _ h => by rw [h.1]; exact hm2) ?_ ?_
  · rintro j x ys S3 hx ⟨rfl, rfl⟩
    obtain ⟨p, hp, rfl⟩ := keys_get hx
    have hpn := (mem_keysI.mp (List.mem_of_getElem? hp)).1
    have hjl := (List.getElem?_eq_some_iff.mp hp).1
    have hs := take_filter (P := fun p => decide (Hue.mk n es p = Hue.mk n es i)) hp
    have mem : ∀ r, r < n → r ∈ keysI (-1) n := fun r hr => mem_keysI.mpr ⟨hr, by omega⟩
    have hlen : (((keysI i n).take j).filter fun p => decide (Hue.mk n es p = Hue.mk n es i)).length ≤ j := by
      have := List.length_filter_le (fun p => decide (Hue.mk n es p = Hue.mk n es i)) ((keysI i n).take j)
      rw [List.length_take] at this
      omega
    refine ⟨_, rfl, _, rfl, _, _, _, dct_loc hw2, rfl, kv_get (mem p hpn), _, rfl, _, rfl, _, _, _, dct_loc hw2, rfl, kv_get (mem i hi), _, rfl, ?_⟩
    show if (((Hue.mk n es p : Nat) : Int) == ((Hue.mk n es i : Nat) : Int)) = true then _ else _
    by_cases h : Hue.mk n es p = Hue.mk n es i
    · rw [if_pos (by simpa using h)] at hs
      exact ifT (by rw [h]; simp) ⟨_, rfl, by rw [natS_len]; show _ < 100000; omega, rfl, by rw [hs, natS_app]; rfl⟩
    · rw [if_neg (by simpa using h), List.append_nil] at hs
      exact ifF (by rw [beq_eq_false_iff_ne]; exact fun z => h (Int.natCast_inj.mp z)) ⟨rfl, by rw [hs]⟩
  · rintro ys S3 ⟨rfl, rfl⟩
    rw [List.length_map, kv_len, List.take_length]
    exact q _ _ rfl hl2
theorem lcI_sp (hΔ : ∀ f, MonoN (Δ f)) {D : EndsS} {lf i lm lp : Nat} {o : Obj} {ks : List (Key × V)} {keys ps fs : List Nat} {N : Nat → Nat} {S : Sto} {w x1 : SV} (hps : ∀ p ∈ ps, p ∈ keys) (hl : ps.length ≤ 100) (hfl : fs.length ≤ 100) (hf : S[lf]? = some (.lst (natS fs))) (hm : S[lm]? = some (.dcf o ks (kvL keys N))) (hp : S[lp]? = some (.lst (natS ps)))
    (q : ∀ (S' : Sto), (∀ k u, k ≠ lf → S[k]? = some u → S'[k]? = some u) → S.length ≤ S'.length → S'[lf]? = some (.lst (natS (fs ++ if 1 < (once ((ps.map N).map fun (i : Nat) => (i : Int))).length then [i] else []))) → D.nx [some w, some x1, some (.loc lf), some (.int i), some (.loc lm), some (.loc lp)] S') :
    wSs Δ [lcI] D [some w, some x1, some (.loc lf), some (.int i), some (.loc lm), some (.loc lp)] S := by
  refine ⟨_, rfl, _, seq_loc hp, ?_⟩
  refine turns_inv (eo_mono hΔ _).2 (ex_mono hΔ _).1 (fun j ys S2 => S2 = S ∧ ys = natS ((ps.take j).map N)) ⟨rfl, rfl⟩ (fun _ _ _ h => by rw [h.1]; exact rfl) ?_ ?_
  · rintro j x ys S2 hx ⟨rfl, rfl⟩
    obtain ⟨p, hpj, rfl⟩ := nat_get hx
    have hjl := (List.getElem?_eq_some_iff.mp hpj).1
    refine ⟨_, rfl, _, rfl, _, _, _, dcf_loc hm, rfl, kv_get (hps p (List.mem_of_getElem? hpj)), by rw [natS_len, List.length_map, List.length_take]; show _ < 100000; omega, rfl, ?_⟩
    rw [List.take_succ, hpj, List.map_append, natS_app]
    rfl
  · rintro ys S2 ⟨rfl, rfl⟩
    rw [natS_len, List.take_length]
    refine ⟨_, _, nofun, seq_loc at_new, int_nat _, by rw [List.length_map, List.length_map]; omega, _, rfl, ?_⟩
    have hf2 : (S2 ++ [SO.lst (natS (ps.map N))])[lf]? = some (.lst (natS fs)) := at_old hf
    refine ifD (fun h => ?_) (fun h => ?_)
    · have h : (1 : Int) < ((once ((ps.map N).map fun (i : Nat) => (i : Int))).length : Nat) := h
      rw [if_pos (show 1 < (once ((ps.map N).map fun (i : Nat) => (i : Int))).length by omega)] at q
      refine ⟨_, rfl, ⟨_, _, rfl, hf2⟩, _, rfl, _, hf2, by rw [natS_len]; show _ < 100000; omega, ?_⟩
      refine q _ (fun k u hk e => by rw [at_ne (Ne.symm hk)]; exact at_old e) (by rw [List.length_set, List.length_append]; omega) ?_
      rw [at_self hf2, natS_app]; rfl
    · have h : ¬ ((1 : Int) < ((once ((ps.map N).map fun (i : Nat) => (i : Int))).length : Nat)) := h
      rw [if_neg (show ¬ 1 < (once ((ps.map N).map fun (i : Nat) => (i : Int))).length by omega), List.append_nil] at q
      exact q _ (fun k u hk e => at_old e) (by rw [List.length_append]; omega) hf2
theorem lawCuts_sp (hΔ : ∀ f, MonoN (Δ f)) {kb : Nat} (hbs : BesideSp (Δ kb)) {D : Df} (hb : D.body = bLawCuts kb) (hN : D.N.length = 6) (hp : D.ps.length = 1) : CutsSp (wDef Δ D) := by
  intro n es S Q H q
  have hf := H.few
  have hn : ∀ e ∈ es, e.1 < n ∧ e.2 < n := fun e he => by have := H.en e he; exact ⟨by omega, by omega⟩
  unfold wDef
  rw [hb, hN]
  refine ⟨hp.symm, _, rfl, hbs H fun lw S1 G1 hl1 h1 => ?_⟩
  rw [offI_neg] at h1
  refine ⟨by show 0 ≤ big; decide, ?_⟩
  have hw : (S1 ++ [SO.lst []])[lw]? = some (.dct (kvL (keysI (-1) n) (Hue.mk n es))) := at_old h1
  have hf0 : (S1 ++ [SO.lst []])[S1.length]? = some (.lst (natS [])) := at_new
  have G2 : Gw S (S1 ++ [SO.lst []]) := G1.push
  have hlf : S.length ≤ S1.length := G1.len
  have hne : lw ≠ S1.length := Nat.ne_of_lt (lt_of h1)
  generalize S1.length = lf at *
  generalize S1 ++ [SO.lst []] = S2 at *
  refine ⟨_, rfl, _, _, rfl, rfl, _, rfl, ⟨by omega, by omega⟩, ?_⟩
  refine loop_inv (ss_mono hΔ _) (fun i ρ S' => ∃ o3 o4 o5, ρ = [some (webS n es), some (.loc lw), some (.loc lf), o3, o4, o5] ∧ Gw S S' ∧ S'[lw]? = some (.dct (kvL (keysI (-1) n) (Hue.mk n es))) ∧ S'[lf]? = some (.lst (natS (cutL n es i)))) ⟨none, none, none, rfl, G2, hw, hf0⟩ (fun _ _ _ _ => trivial) ?_ ?_
  · rintro i x ρ S3 hx ⟨o3, o4, o5, rfl, G3, h3w, h3f⟩
    obtain ⟨rfl, hi⟩ := rng_get hx
    rw [Int.zero_add] at hi ⊢
    have hi : i < n := by omega
    refine ⟨_, rfl, _, rfl, hbs H fun lm S4 G4 hl4 h4 => ?_⟩
    rw [offI_nat] at h4
    have h4w := G4.keep _ _ h3w
    have h4f := G4.keep _ _ h3f
    have nw : lw ≠ lm := by have := lt_of h3w; omega
    have nf : lf ≠ lm := by have := lt_of h3f; omega
    refine lcP_sp (rest := [lcI]) hΔ hf hi h4w h4 nw fun o ks S5 lp e5 elp => ?_
    have keep : ∀ k u, k ≠ lm → S4[k]? = some u → S5[k]? = some u := fun k u hk e => by rw [e5]; exact at_old (by rw [at_ne (Ne.symm hk)]; exact e)
    have h5m : S5[lm]? = some (.dcf o ks (kvL (keysI i n) (Hue.mk n (Hue.off i es)))) := by rw [e5]; exact at_old (at_self h4)
    have h5p : S5[lp]? = some (.lst (natS (parted n es i))) := by
      have : (S4.set lm (.dcf o ks (kvL (keysI i n) (Hue.mk n (Hue.off i es))))).length = lp := by rw [List.length_set, elp]
      rw [e5, ← this]; exact at_new
    have h5l : S4.length ≤ S5.length := by rw [e5, List.length_append, List.length_set]; omega
    have pl : (parted n es i).length ≤ 100 := by
      have := List.length_filter_le (fun p => decide (Hue.mk n es p = Hue.mk n es i)) (keysI i n)
      have := keysI_len i n
      unfold parted
      omega
    have fl := cutL_len n es i
    refine lcI_sp hΔ (fun p hp => (List.mem_filter.mp hp).1) pl (by omega) (keep _ _ nf h4f) h5m h5p fun S6 k6 l6 h6 => ⟨_, _, _, rfl, ?_, k6 _ _ hne (keep _ _ nw h4w), ?_⟩
    · refine ⟨by have := G3.len; have := G4.len; omega, fun k u e => k6 k u (fun z => ?_) (keep k u (fun z => ?_) (G4.keep k u (G3.keep k u e)))⟩
      · have := lt_of e; omega
      · have := lt_of e; have := G3.len; omega
    · rw [h6, cutL_succ]
      congr 4
      exact ite_congr (propext (parted_two hn hi)) (fun _ => rfl) (fun _ => rfl)
  · rintro ρ S3 ⟨o3, o4, o5, rfl, G3, h3w, h3f⟩
    rw [rng_len, show ((n : Int) - 0).toNat = n by omega] at h3f
    exact ⟨_, rfl, q _ _ G3 hlf h3f⟩
end
end Rf
set_option Elab.async false
set_option linter.all false
set_option maxRecDepth 100000
set_option maxHeartbeats 1000000
namespace Rf
open PySem L2
section
variable {Δ : Nat → Sn}
structure WebK (n : Nat) (es : List (Nat × Nat)) : Prop where
  en : ∀ e ∈ es, e.1 < e.2 ∧ e.2 < n
  len : es.length ≤ 100
  few : n ≤ 31
end
end Rf
set_option Elab.async false
set_option linter.all false
set_option maxRecDepth 100000
set_option maxHeartbeats 1000000
namespace Rf
open PySem L2
section
variable {Δ : Nat → Sn}
noncomputable def bSome (kd kw : Nat) : List Stm := [(.ret (.call kw (.cons (.var 0) (.cons (.cmp .Eq (.call kd (.cons (.var 0) (.cons (.c (.int 8)) .nil))) (.c (.int 0))) .nil))))]
noncomputable def SomeSp (s : Sn) : Prop := ∀ {t : Nat} {S : Sto} {Q : QE}, TapeS S t → (∀ (n : Nat) (es : List (Nat × Nat)) (S' : Sto), Web n es → TapeS S' t → On t S S' → Q (webS n es) S') → s [.loc t] S Q
theorem some_sp {kd kw : Nat} (hd : DrawSp (Δ kd)) (hw : WebSp (Δ kw)) {D : Df} (hb : D.body = bSome kd kw) (hN : D.N.length = 1) (hp : D.ps.length = 1) : SomeSp (wDef Δ D) := by
  intro t S Q T q
  unfold wDef
  rw [hb, hN]
  exact ⟨hp.symm, _, rfl, _, rfl, hd T (by decide) (by decide) fun r S2 r0 r1 T2 O2 _ => hw T2 fun n es S3 W T3 O3 => q n es S3 W T3 (O2.trans O3)⟩
noncomputable def x1' (kd : Nat) : Stm := (.par 1 2 (.op .Add (.c (.int 20)) (.call kd (.cons (.var 0) (.cons (.c (.int 11)) .nil)))) (.call kd (.cons (.var 0) (.cons (.c (.int 2)) .nil))))
noncomputable def x2' : Stm := (.asg (.nm 3) (.lst .nil))
noncomputable def y1' (kd : Nat) : Stm := (.par 5 6 (.call kd (.cons (.var 0) (.cons (.var 1) .nil))) (.call kd (.cons (.var 0) (.cons (.op .Sub (.var 1) (.c (.int 1))) .nil))))
noncomputable def y2' : Stm := (.asg (.nm 7) (.op .Mod (.op .Add (.op .Add (.var 5) (.c (.int 1))) (.var 6)) (.var 1)))
noncomputable def y3' : Stm := (.iff (.cmp .Eq (.var 2) (.c (.int 0))) [(.asg (.nm 5) (.op .Mod (.var 5) (.op .FloorDiv (.var 1) (.c (.int 2))))), (.asg (.nm 7) (.op .Add (.op .FloorDiv (.var 1) (.c (.int 2))) (.op .Mod (.var 6) (.op .Sub (.var 1) (.op .FloorDiv (.var 1) (.c (.int 2)))))))] [])
noncomputable def y4' : Stm := (.expr (.mt .append (.var 3) (.cons (.tup (.cons (.bi .min (.cons (.var 5) (.cons (.var 7) .nil))) (.cons (.bi .max (.cons (.var 5) (.cons (.var 7) .nil))) .nil))) .nil)))
noncomputable def x3' (kd : Nat) : Stm := (.loop (.nm 4) (.rng1 (.op .Add (.c (.int 30)) (.call kd (.cons (.var 0) (.cons (.c (.int 61)) .nil))))) [y1' kd, y2', y3', y4'])
noncomputable def x4' : Stm := (.ret (.tup (.cons (.var 1) (.cons (.bi .tuple (.cons (.var 3) .nil)) .nil))))
noncomputable def bWide (kd : Nat) : List Stm := [x1' kd, x2', x3' kd, x4']
noncomputable def WideSp (s : Sn) : Prop := ∀ {t : Nat} {S : Sto} {Q : QE}, TapeS S t → (∀ (n : Nat) (es : List (Nat × Nat)) (S' : Sto), WebK n es → TapeS S' t → On t S S' → Q (webS n es) S') → s [.loc t] S Q
theorem y4_sp {t n l : Nat} {x y : Int} {S0 S : Sto} {es : List (Nat × Nat)} {D : EndsS} {o0 o1 o2 o4 o6 : Option SV} (A : Ah t S0 S l es) (hel : es.length ≤ 1000) (hx : 0 ≤ x ∧ x < n) (hy : 0 ≤ y ∧ y < n) (hxy : x ≠ y)
    (q : ∀ (e : Nat × Nat) (S' : Sto), e.1 < e.2 → e.2 < n → Ah t S0 S' l (es ++ [e]) → D.nx [o0, o1, o2, some (.loc l), o4, some (.int x), o6, some (.int y)] S') : wSs Δ [y4'] D [o0, o1, o2, some (.loc l), o4, some (.int x), o6, some (.int y)] S := by
  refine ⟨_, rfl, ⟨_, _, rfl, A.at'⟩, _, rfl, _, rfl, _, rfl, _, rfl, by show 2 ≤ big; decide, _, A.at', by rw [List.length_map]; show _ < 100000; omega, ?_⟩
  have key : ∀ (a b : Nat) (z1 z2 : Int), z1 = a → z2 = b → a < b → b < n → D.nx [o0, o1, o2, some (.loc l), o4, some (.int x), o6, some (.int y)] (S.set l (.lst (es.map pairS ++ [.tup [.int z1, .int z2]]))) := by
    rintro a b _ _ rfl rfl hab hbn
    have e1 : es.map pairS ++ [SV.tup [.int a, .int b]] = (es ++ [(a, b)]).map pairS := by rw [List.map_append]; rfl
    rw [e1]
    exact q (a, b) _ hab hbn A.put
  by_cases hc : x < y
  · exact key x.toNat y.toNat _ _ (by rw [if_neg (by omega)]; omega) (by rw [if_pos (by omega)]; omega) (by omega) (by omega)
  · exact key y.toNat x.toNat _ _ (by rw [if_pos (by omega)]; omega) (by rw [if_neg (by omega)]; omega) (by omega) (by omega)
theorem wide_rest (hΔ : ∀ f, MonoN (Δ f)) {kd : Nat} (hd : DrawSp (Δ kd)) {t n : Nat} {z h : Int} {S0 S : Sto} {Q : QE} (hz : z = n) (hn : 20 ≤ n ∧ n ≤ 30) (T : TapeS S t) (O : On t S0 S) (t0 : t < S0.length)
    (q : ∀ (es : List (Nat × Nat)) (S' : Sto), WebK n es → TapeS S' t → On t S0 S' → Q (webS n es) S') : wSs Δ [x2', x3' kd, x4'] (endsOf Q) [some (.loc t), some (.int z), some (.int h), none, none, none, none, none] S := by
  subst hz
  refine ⟨by show 0 ≤ big; decide, ?_⟩
  have A0 : Ah t S0 (S ++ [SO.lst []]) S.length [] := ⟨T.push, O.push, at_new, O.len, t0⟩
  generalize S.length = l at *
  generalize S ++ [SO.lst []] = S1 at *
  refine ⟨_, rfl, hd A0.tape (by decide) (by decide) fun r S2 r0 r1 T2 O2 _ => ⟨_, rfl, ⟨by omega, by omega⟩, ?_⟩⟩
  have A2 := A0.draw T2 O2
  refine loop_inv (ss_mono hΔ _) (fun i ρ S' => ∃ es o4 o5 o6 o7, ρ = [some (.loc t), some (.int (n : Nat)), some (.int h), some (.loc l), o4, o5, o6, o7] ∧ Ah t S0 S' l es ∧ (∀ e ∈ es, e.1 < e.2 ∧ e.2 < n) ∧ es.length = i) ⟨[], none, none, none, none, rfl, A2, (fun _ h => nomatch h), rfl⟩ (fun _ _ _ _ => trivial) ?_ ?_
  · rintro i x ρ S3 hx ⟨es, o4, o5, o6, o7, rfl, A3, he, hl⟩
    obtain ⟨rfl, hi⟩ := rng_get hx
    refine ⟨_, rfl, _, rfl, hd A3.tape (by omega) (by omega) fun a S4 a0 a1 T4 O4 _ => ⟨_, rfl, _, rfl, hd (A3.draw T4 O4).tape (by omega) (by omega) fun b S5 b0 b1 T5 O5 _ => ?_⟩⟩
    have A5 := (A3.draw T4 O4).draw T5 O5
    have m0 : 0 ≤ (a + 1 + b) % n := Int.emod_nonneg _ (by omega)
    have m1 : (a + 1 + b) % n < n := Int.emod_lt_of_pos _ (by omega)
    have hne : a ≠ (a + 1 + b) % n := by
      by_cases hb : a + 1 + b < n
      · rw [Int.emod_eq_of_lt (by omega) hb]; omega
      · rw [← Int.sub_emod_right, Int.emod_eq_of_lt (by omega) (by omega)]; omega
    have fin : ∀ {e : Nat × Nat}, e.1 < e.2 → e.2 < n → (∀ f ∈ es ++ [e], f.1 < f.2 ∧ f.2 < n) ∧ (es ++ [e]).length = i + 1 := fun {e} h1 h2 => ⟨fun f hf => by
      rcases List.mem_append.mp hf with hf | hf
      · exact he f hf
      · rw [List.mem_singleton.mp hf]; exact ⟨h1, h2⟩, by rw [List.length_append, hl]; rfl⟩
    refine ⟨_, rfl, _, rfl, _, rfl, (show (0 : Int) < n by omega), ?_⟩
    refine ⟨_, rfl, _, rfl, ifD (fun h => ?_) (fun h => ss_nil ?_)⟩
    · have d0 : (0 : Int) < (n : Int) / 2 := by omega
      have d1 : (0 : Int) < (n : Int) - (n : Int) / 2 := by omega
      have p0 := Int.emod_nonneg a (show (n : Int) / 2 ≠ 0 by omega)
      have p1 := Int.emod_lt_of_pos a d0
      have p2 := Int.emod_nonneg b (show (n : Int) - (n : Int) / 2 ≠ 0 by omega)
      have p3 := Int.emod_lt_of_pos b d1
      refine ⟨_, rfl, _, rfl, ⟨by decide, by decide⟩, d0, ?_⟩
      refine ⟨_, rfl, ⟨by decide, by decide⟩, _, rfl, _, rfl, _, rfl, ⟨by decide, by decide⟩, d1, ?_⟩
      dsimp only [List.set]
      refine y4_sp (n := n) A5 (by omega) ⟨p0, by omega⟩ ⟨by omega, by omega⟩ (by omega) fun e S6 h1 h2 A6 => ⟨_, _, _, _, _, rfl, A6, fin h1 h2⟩
    · dsimp only [List.set]
      refine y4_sp (n := n) A5 (by omega) ⟨a0, a1⟩ ⟨m0, m1⟩ hne fun e S6 h1 h2 A6 => ⟨_, _, _, _, _, rfl, A6, fin h1 h2⟩
  · rintro ρ S3 ⟨es, o4, o5, o6, o7, rfl, A3, he, hl⟩
    rw [rng_len] at hl
    exact ⟨_, rfl, _, rfl, _, seq_loc A3.at', by show 2 ≤ big; decide, q es S3 ⟨he, by omega, by omega⟩ A3.tape A3.on⟩
theorem wide_sp (hΔ : ∀ f, MonoN (Δ f)) {kd : Nat} (hd : DrawSp (Δ kd)) {D : Df} (hb : D.body = bWide kd) (hN : D.N.length = 8) (hp : D.ps.length = 1) : WideSp (wDef Δ D) := by
  intro t S Q T q
  unfold wDef
  rw [hb, hN]
  refine ⟨hp.symm, _, rfl, hd T (by decide) (by decide) fun r S2 r0 r1 T2 O2 _ => ⟨_, rfl, hd T2 (by decide) (by decide) fun h S3 h0 h1 T3 O3 _ => ?_⟩⟩
  dsimp only [List.set, envOf, List.map, List.replicate, List.append, HAppend.hAppend, Append.append]
  exact wide_rest hΔ hd (n := (20 + r).toNat) (by omega) ⟨by omega, by omega⟩ T3 (O2.trans O3) T.lt fun es S' W T' O' => q _ es S' W T' O'
end
end Rf
set_option Elab.async false
set_option linter.all false
set_option maxRecDepth 100000
set_option maxHeartbeats 1000000
namespace Rf
open PySem L2
theorem ins_pairs (fs : List (Nat × Nat)) (k : Nat) (e : Nat × Nat) : (fs.map pairS).take k ++ pairS e :: (fs.map pairS).drop k = (fs.take k ++ e :: fs.drop k).map pairS := by
  rw [List.map_append, List.map_cons, List.map_take, List.map_drop]
theorem ins_mem {fs : List (Nat × Nat)} {k : Nat} {e : Nat × Nat} {P : Nat × Nat → Prop} (h : ∀ f ∈ fs, P f) (he : P e) : ∀ f ∈ fs.take k ++ e :: fs.drop k, P f := fun f hf => by
  rcases List.mem_append.mp hf with hf | hf
  · exact h f (List.mem_of_mem_take hf)
  · rcases List.mem_cons.mp hf with hf | hf
    · rw [hf]; exact he
    · exact h f (List.mem_of_mem_drop hf)
theorem ins_len (fs : List (Nat × Nat)) (k : Nat) (e : Nat × Nat) : (fs.take k ++ e :: fs.drop k).length = fs.length + 1 := by
  rw [List.length_append, List.length_cons, List.length_take, List.length_drop]; omega
noncomputable abbrev En (n : Nat) (es : List (Nat × Nat)) : Prop := ∀ e ∈ es, e.1 < e.2 ∧ e.2 < n
noncomputable def jn1 : Stm := (.iff (.or (.cmp .Eq (.ix (.var 1) (.c (.int 0))) (.c (.int 0))) (.cmp .Eq (.ix (.var 2) (.c (.int 0))) (.c (.int 0)))) [(.ret (.ix (.lst (.cons (.var 1) (.cons (.var 2) .nil))) (.bi .int (.cons (.cmp .Eq (.ix (.var 1) (.c (.int 0))) (.c (.int 0))) .nil))))] [])
noncomputable def jn3 (kd : Nat) : Stm := (.asg (.nm 3) (.call kd (.cons (.var 0) (.cons (.ix (.var 1) (.c (.int 0))) .nil))))
noncomputable def jn4 (kd : Nat) : Stm := (.asg (.nm 4) (.call kd (.cons (.var 0) (.cons (.ix (.var 2) (.c (.int 0))) .nil))))
noncomputable def jn5 : Stm := (.asg (.nm 5) (.comp ["_law_place"] ["_law_spot", "_law_at", "_law_one"] [4, 3, 1] (.nm 0) (.rng1 (.ix (.var 2) (.c (.int 0)))) .no (.ife (.cmp .Eq (.var 0) (.var 1)) (.var 2) (.op .Sub (.op .Add (.ix (.var 3) (.c (.int 0))) (.var 0)) (.bi .int (.cons (.cmp .Gt (.var 0) (.var 1)) .nil))))))
noncomputable def jn6 : Stm := (.asg (.nm 6) (.bi .list (.cons (.ix (.var 1) (.c (.int 1))) .nil)))
noncomputable def jnA : Stm := (.asg (.nm 8) (.tup (.cons (.bi .min (.cons (.ix (.var 5) (.ix (.var 7) (.c (.int 0)))) (.cons (.ix (.var 5) (.ix (.var 7) (.c (.int 1)))) .nil))) (.cons (.bi .max (.cons (.ix (.var 5) (.ix (.var 7) (.c (.int 0)))) (.cons (.ix (.var 5) (.ix (.var 7) (.c (.int 1)))) .nil))) .nil))))
noncomputable def jnB (kd : Nat) : Stm := (.expr (.mt .insert (.var 6) (.cons (.call kd (.cons (.var 0) (.cons (.op .Add (.bi .len (.cons (.var 6) .nil)) (.c (.int 1))) .nil))) (.cons (.var 8) .nil))))
noncomputable def jn7 (kd : Nat) : Stm := (.loop (.nm 7) (.seq (.ix (.var 2) (.c (.int 1)))) [jnA, jnB kd])
noncomputable def jn8 : Stm := (.ret (.tup (.cons (.op .Sub (.op .Add (.ix (.var 1) (.c (.int 0))) (.ix (.var 2) (.c (.int 0)))) (.c (.int 1))) (.cons (.bi .tuple (.cons (.var 6) .nil)) .nil))))
noncomputable def bJoined (kd : Nat) : List Stm := [jn1, jn3 kd, jn4 kd, jn5, jn6, jn7 kd, jn8]
section
variable {Δ : Nat → Sn} {kd : Nat}
theorem jn_tail (hΔ : ∀ f, MonoN (Δ f)) (hd : DrawSp (Δ kd)) {t ln n1 n2 : Nat} {es1 es2 : List (Nat × Nat)} {nm : Nat → Nat} {S0 S : Sto} {Q : QE} {o3 o4 : Option SV} (T : TapeS S t) (O : On t S0 S) (t0 : t < S0.length) (hln : S[ln]? = some (.lst (natS ((List.range n2).map nm)))) (nlt : ln ≠ t) (h1 : 0 < n1)
    (hnm : ∀ p, p < n2 → nm p < n1 + n2 - 1) (inj : ∀ p q, p < n2 → q < n2 → p ≠ q → nm p ≠ nm q) (e1 : En (n1 + n2 - 1) es1) (e2 : En n2 es2) (l1 : es1.length ≤ 400) (l2 : es2.length ≤ 400)
    (q : ∀ (es : List (Nat × Nat)) (S' : Sto), En (n1 + n2 - 1) es → es.length = es1.length + es2.length → TapeS S' t → On t S0 S' → Q (webS (n1 + n2 - 1) es) S') :
    wSs Δ [jn6, jn7 kd, jn8] (endsOf Q) [some (.loc t), some (webS n1 es1), some (webS n2 es2), o3, o4, some (.loc ln), none, none, none] S := by
  refine ⟨_, rfl, _, _, rfl, rfl, _, rfl, ?_⟩
  have A0 : Ah t S0 (S ++ [SO.lst (es1.map pairS)]) S.length es1 := ⟨T.push, O.push, at_new, O.len, t0⟩
  have hl0 : (S ++ [SO.lst (es1.map pairS)])[ln]? = some (.lst (natS ((List.range n2).map nm))) := at_old hln
  have nll : ln ≠ S.length := Nat.ne_of_lt (lt_of hln)
  generalize S.length = l at *
  generalize S ++ [SO.lst (es1.map pairS)] = S1 at *
  refine ⟨_, rfl, _, _, rfl, rfl, _, rfl, ?_⟩
  refine loop_inv (ss_mono hΔ _) (fun i ρ S' => ∃ (fs : List (Nat × Nat)) (o7 o8 : Option SV), ρ = [some (.loc t), some (webS n1 es1), some (webS n2 es2), o3, o4, some (.loc ln), some (.loc l), o7, o8] ∧ Ah t S0 S' l fs ∧ S'[ln]? = some (.lst (natS ((List.range n2).map nm))) ∧ En (n1 + n2 - 1) fs ∧ fs.length = es1.length + i)
    ⟨es1, none, none, rfl, A0, hl0, e1, rfl⟩ (fun _ _ _ _ => trivial) ?_ ?_
  · rintro i x ρ S2 hx ⟨fs, o7, o8, rfl, A2, h2, hf, fl⟩
    obtain ⟨e, he, rfl⟩ := pair_get hx
    have hil := (List.getElem?_eq_some_iff.mp he).1
    have hee := e2 e (List.mem_of_getElem? he)
    have g : ∀ p, p < n2 → ((List.range n2).map nm)[p]? = some (nm p) := fun p hp => by rw [List.getElem?_map, List.getElem?_range hp]; rfl
    have g1 := natS_get (g e.1 (by omega))
    have g2 := natS_get (g e.2 (by omega))
    refine ⟨_, rfl, _, rfl, _, _, rfl, rfl, _, _, seq_loc h2, atI_nat g1, _, rfl, _, rfl, _, _, rfl, rfl, _, _, seq_loc h2, atI_nat g2, _, rfl, _, rfl, _, _, rfl, rfl, _, _, seq_loc h2, atI_nat g1, _, rfl, _, rfl, _, _, rfl, rfl, _, _, seq_loc h2, atI_nat g2, by show 2 ≤ big; decide, ?_⟩
    have ne := inj e.1 e.2 (by omega) (by omega) (by omega)
    have b1 := hnm e.1 (by omega)
    have b2 := hnm e.2 (by omega)
    generalize nm e.1 = a at *
    generalize nm e.2 = b at *
    have key : ∀ z1 z2 : Int, z1 = ((min a b : Nat) : Int) → z2 = ((max a b : Nat) : Int) → wSs Δ [jnB kd] { (endsOf Q) with nx := fun ρ S' => ∃ (fs : List (Nat × Nat)) (o7 o8 : Option SV), ρ = [some (.loc t), some (webS n1 es1), some (webS n2 es2), o3, o4, some (.loc ln), some (.loc l), o7, o8] ∧ Ah t S0 S' l fs ∧ S'[ln]? = some (.lst (natS ((List.range n2).map nm))) ∧ En (n1 + n2 - 1) fs ∧ fs.length = es1.length + (i + 1) } [some (.loc t), some (webS n1 es1), some (webS n2 es2), o3, o4, some (.loc ln), some (.loc l), some (pairS e), some (.tup [.int z1, .int z2])] S2 := by
      rintro _ _ rfl rfl
      refine ⟨_, rfl, ⟨_, _, rfl, A2.at'⟩, _, rfl, _, rfl, _, seq_loc A2.at', hd A2.tape (by omega) (by rw [List.length_map]; omega) fun r S3 r0 r1 T3 O3 _ => ?_⟩
      have A3 := A2.draw T3 O3
      rw [List.length_map] at r1
      refine ⟨_, rfl, _, A3.at', ⟨r0, by rw [List.length_map]; omega⟩, by rw [List.length_map]; show _ < 100000; omega, ?_⟩
      have ip := ins_pairs fs r.toNat (min a b, max a b)
      have ip : (fs.map pairS).take r.toNat ++ SV.tup [.int ((min a b : Nat) : Int), .int ((max a b : Nat) : Int)] :: (fs.map pairS).drop r.toNat = (fs.take r.toNat ++ (min a b, max a b) :: fs.drop r.toNat).map pairS := ip
      rw [ip]
      exact ⟨_, _, _, rfl, A3.put, by rw [at_ne (Ne.symm nll)]; exact O3.keep _ _ nlt h2, ins_mem hf ⟨by show min a b < max a b; omega, by show max a b < _; omega⟩, by rw [ins_len, fl]; omega⟩
    exact key _ _ (min_nat a b) (max_nat a b)
  · rintro ρ S2 ⟨fs, o7, o8, rfl, A2, h2, hf, fl⟩
    rw [List.length_map] at fl
    refine ⟨_, rfl, _, _, rfl, rfl, _, rfl, _, _, rfl, rfl, _, rfl, _, seq_loc A2.at', by show 2 ≤ big; decide, ?_⟩
    have fin : ∀ z : Int, z = ((n1 + n2 - 1 : Nat) : Int) → Q (.tup [.int z, .tup (fs.map pairS)]) S2 := by
      rintro _ rfl
      exact q fs S2 hf fl A2.tape A2.on
    exact fin _ (by omega)
noncomputable def JoinedSp (s : Sn) : Prop := ∀ {t n1 n2 : Nat} {es1 es2 : List (Nat × Nat)} {S : Sto} {Q : QE}, TapeS S t → En n1 es1 → En n2 es2 → n1 ≤ 100 → n2 ≤ 100 → es1.length ≤ 400 → es2.length ≤ 400 →
  (∀ (n : Nat) (es : List (Nat × Nat)) (S' : Sto), En n es → n ≤ n1 + n2 → es.length ≤ es1.length + es2.length → TapeS S' t → On t S S' → Q (webS n es) S') → s [.loc t, webS n1 es1, webS n2 es2] S Q
noncomputable def nmJ (n1 a sp p : Nat) : Nat := if p = sp then a else if sp < p then n1 + p - 1 else n1 + p
theorem joined_sp (hΔ : ∀ f, MonoN (Δ f)) (hd : DrawSp (Δ kd)) {D : Df} (hb : D.body = bJoined kd) (hN : D.N.length = 9) (hp : D.ps.length = 3) : JoinedSp (wDef Δ D) := by
  intro t n1 n2 es1 es2 S Q T e1 e2 b1 b2 l1 l2 q
  unfold wDef
  rw [hb, hN]
  have t0 := T.lt
  have ret : ∀ v, atI [webS n1 es1, webS n2 es2] (if decide ((n1 : Int) = 0) = true then 1 else 0) = some v → Q v (S ++ [SO.lst [webS n1 es1, webS n2 es2]]) → wSs Δ [(.ret (.ix (.lst (.cons (.var 1) (.cons (.var 2) .nil))) (.bi .int (.cons (.cmp .Eq (.ix (.var 1) (.c (.int 0))) (.c (.int 0))) .nil))))] (endsOf Q) [some (.loc t), some (webS n1 es1), some (webS n2 es2), none, none, none, none, none, none] S := by
    intro v hv h
    exact ⟨_, rfl, _, rfl, by show 2 ≤ big; decide, _, rfl, _, _, rfl, rfl, _, v, seq_loc at_new, hv, h⟩
  refine ⟨hp.symm, _, rfl, _, _, rfl, rfl, _, rfl, ifD (fun h => ifT rfl (ret _ (by rw [decide_eq_true h]; rfl) (q n2 es2 _ e2 (by omega) (by omega) T.push (On.refl t S).push))) (fun h => ⟨_, rfl, _, _, rfl, rfl, _, rfl, ifD (fun h' => ret _ (by rw [decide_eq_false h]; rfl) (q n1 es1 _ e1 (by omega) (by omega) T.push (On.refl t S).push)) (fun h' => ?_)⟩)⟩
  have h1 : 0 < n1 := by omega
  have h2 : 0 < n2 := by omega
  refine ⟨_, rfl, _, rfl, _, _, rfl, rfl, hd T (by omega) (by omega) fun a S1 a0 a1 T1 O1 _ => ⟨_, rfl, _, rfl, _, _, rfl, rfl, hd T1 (by omega) (by omega) fun sp S2 s0 s1 T2 O2 _ => ?_⟩⟩
  obtain ⟨a', rfl⟩ : ∃ k : Nat, a = k := ⟨a.toNat, by omega⟩
  obtain ⟨sp', rfl⟩ : ∃ k : Nat, sp = k := ⟨sp.toNat, by omega⟩
  refine ⟨_, rfl, _, _, rfl, rfl, _, rfl, ⟨by omega, by omega⟩, ?_⟩
  refine turns_inv (eo_mono hΔ _).2 (ex_mono hΔ _).1 (fun i ys S3 => S3 = S2 ∧ ys = natS ((List.range i).map (nmJ n1 a' sp'))) ⟨rfl, rfl⟩ (fun _ _ _ _ => trivial) ?_ ?_
  · rintro i x ys S3 hx ⟨rfl, rfl⟩
    obtain ⟨rfl, hi⟩ := rng_get hx
    rw [Int.zero_add] at hi ⊢
    have fin : ∀ z : Int, z = nmJ n1 a' sp' i → (natS ((List.range i).map (nmJ n1 a' sp'))).length < big ∧ S3 = S3 ∧ natS ((List.range i).map (nmJ n1 a' sp')) ++ [.int z] = natS ((List.range (i + 1)).map (nmJ n1 a' sp')) := by
      rintro _ rfl
      refine ⟨by rw [natS_len, List.length_map, List.length_range]; show _ < 100000; omega, rfl, ?_⟩
      rw [List.range_succ, List.map_append, natS_app]; rfl
    refine ⟨_, rfl, _, rfl, _, rfl, ifD (fun h => ⟨_, rfl, fin _ ?_⟩) (fun h => ⟨_, rfl, _, _, rfl, rfl, _, rfl, _, rfl, _, rfl, fin _ ?_⟩)⟩
    · have h : i = sp' := Int.natCast_inj.mp h
      unfold nmJ; rw [if_pos h]
    · have h : ¬ i = sp' := fun z => h (congrArg _ z)
      unfold nmJ
      rw [if_neg h]
      show (n1 : Int) + i - (if decide ((sp' : Int) < i) = true then 1 else 0) = _
      by_cases hs : sp' < i
      · rw [if_pos (decide_eq_true (by omega)), if_pos hs]; omega
      · rw [if_neg (by simpa using hs), if_neg hs]; omega
  · rintro ys S3 ⟨rfl, rfl⟩
    rw [rng_len, show ((n2 : Int) - 0).toNat = n2 by omega]
    have O := (O1.trans O2)
    have hlt : t < S3.length := T2.lt
    refine jn_tail hΔ hd (nm := nmJ n1 a' sp') T2.push O.push t0 at_new (by omega) h1 (fun p hp => ?_) (fun p q' hp hq ne => ?_) (fun e he => by have := e1 e he; exact ⟨this.1, by omega⟩) e2 l1 l2 fun es S' he hl T' O' => q _ es S' he (by omega) (by omega) T' O'
    · unfold nmJ; split
      · omega
      · split <;> omega
    · unfold nmJ
      split <;> split <;> first | omega | (split <;> first | omega | (split <;> omega))
end
end Rf
set_option Elab.async false
set_option linter.all false
set_option maxRecDepth 100000
set_option maxHeartbeats 1000000
namespace Rf
open PySem L2
noncomputable def rgA (kd : Nat) : Stm := (.asg (.nm 4) (.op .Add (.c (.int 1)) (.bi .int (.cons (.cmp .Gt (.call kd (.cons (.var 0) (.cons (.c (.int 4)) .nil))) (.c (.int 0))) .nil))))
noncomputable def rgB : Stm := (.asg (.nm 5) (.lst (.cons (.tup (.cons (.var 2) (.cons (.op .Add (.var 2) (.c (.int 1))) .nil))) (.cons (.tup (.cons (.var 2) (.cons (.op .Add (.var 2) (.var 4)) .nil))) .nil))))
noncomputable def rgC : Stm := (.iff (.cmp .Gt (.var 4) (.c (.int 1))) [(.expr (.mt .append (.var 5) (.cons (.tup (.cons (.op .Add (.var 2) (.c (.int 1))) (.cons (.op .Add (.var 2) (.c (.int 2))) .nil))) .nil)))] [])
noncomputable def rgI (kd : Nat) : Stm := (.expr (.mt .insert (.var 1) (.cons (.call kd (.cons (.var 0) (.cons (.op .Add (.bi .len (.cons (.var 1) .nil)) (.c (.int 1))) .nil))) (.cons (.var 6) .nil))))
noncomputable def rgD (kd : Nat) : Stm := (.loop (.nm 6) (.seq (.var 5)) [rgI kd])
noncomputable def rgE : Stm := (.asg (.nm 2) (.op .Add (.var 2) (.var 4)))
noncomputable def rg1 : Stm := (.par 1 2 (.lst .nil) (.c (.int 0)))
noncomputable def rg2 (kd : Nat) : Stm := (.loop (.nm 3) (.rng1 (.op .Add (.c (.int 4)) (.call kd (.cons (.var 0) (.cons (.c (.int 5)) .nil))))) [rgA kd, rgB, rgC, rgD kd, rgE])
noncomputable def rg3 : Stm := (.ret (.tup (.cons (.op .Add (.var 2) (.c (.int 1))) (.cons (.bi .tuple (.cons (.var 1) .nil)) .nil))))
noncomputable def bRings (kd : Nat) : List Stm := [rg1, rg2 kd, rg3]
section
variable {Δ : Nat → Sn} {kd : Nat}
theorem rg_row (hΔ : ∀ f, MonoN (Δ f)) (hd : DrawSp (Δ kd)) {D : EndsS} {t l lr n z m : Nat} {S0 S : Sto} {fs rs : List (Nat × Nat)} {o3 o6 : Option SV} (A : Ah t S0 S l fs) (hr : S[lr]? = some (.lst (rs.map pairS))) (nt : lr ≠ t) (nl : lr ≠ l) (hf : En n fs) (he : En n rs) (fl : fs.length ≤ 100) (rl : rs.length ≤ 3)
    (q : ∀ (fs' : List (Nat × Nat)) (o6 : Option SV) (S' : Sto), Ah t S0 S' l fs' → En n fs' → fs'.length = fs.length + rs.length → D.nx [some (.loc t), some (.loc l), some (.int ((z + m : Nat) : Int)), o3, some (.int m), some (.loc lr), o6] S') :
    wSs Δ [rgD kd, rgE] D [some (.loc t), some (.loc l), some (.int z), o3, some (.int m), some (.loc lr), o6] S := by
  refine ⟨_, rfl, _, seq_loc hr, ?_⟩
  refine loop_inv (ss_mono hΔ _) (fun i ρ S' => ∃ (fs' : List (Nat × Nat)) (o6 : Option SV), ρ = [some (.loc t), some (.loc l), some (.int z), o3, some (.int m), some (.loc lr), o6] ∧ Ah t S0 S' l fs' ∧ S'[lr]? = some (.lst (rs.map pairS)) ∧ En n fs' ∧ fs'.length = fs.length + i) ⟨fs, o6, rfl, A, hr, hf, rfl⟩ (fun _ _ S' ⟨_, _, _, _, h, _⟩ => h.trans hr.symm) ?_ ?_
  · rintro i x ρ S2 hx ⟨gs, p6, rfl, A2, h2, hg, gl⟩
    obtain ⟨e, hei, rfl⟩ := pair_get hx
    have hil := (List.getElem?_eq_some_iff.mp hei).1
    refine ⟨_, rfl, ⟨_, _, rfl, A2.at'⟩, _, rfl, _, rfl, _, seq_loc A2.at', hd A2.tape (by omega) (by rw [List.length_map]; omega) fun r S3 r0 r1 T3 O3 _ => ?_⟩
    have A3 := A2.draw T3 O3
    rw [List.length_map] at r1
    refine ⟨_, rfl, _, A3.at', ⟨r0, by rw [List.length_map]; omega⟩, by rw [List.length_map]; show _ < 100000; omega, ?_⟩
    rw [ins_pairs]
    exact ⟨_, _, rfl, A3.put, by rw [at_ne (Ne.symm nl)]; exact O3.keep _ _ nt h2, ins_mem hg (he e (List.mem_of_getElem? hei)), by rw [ins_len, gl]; omega⟩
  · rintro ρ S2 ⟨gs, p6, rfl, A2, h2, hg, gl⟩
    rw [List.length_map] at gl
    have q := q gs p6 S2 A2 hg gl
    rw [Int.natCast_add] at q
    exact ⟨_, rfl, _, rfl, q⟩
theorem rg_turn (hΔ : ∀ f, MonoN (Δ f)) (hd : DrawSp (Δ kd)) {D : EndsS} {t l z m : Nat} {S0 S : Sto} {fs : List (Nat × Nat)} {o3 o5 o6 : Option SV} (A : Ah t S0 S l fs) (hf : En (z + 1) fs) (fl : fs.length ≤ 100) (hm : m = 1 ∨ m = 2)
    (q : ∀ (fs' : List (Nat × Nat)) (o5 o6 : Option SV) (S' : Sto), Ah t S0 S' l fs' → En (z + m + 1) fs' → fs'.length ≤ fs.length + 3 → D.nx [some (.loc t), some (.loc l), some (.int ((z + m : Nat) : Int)), o3, some (.int m), o5, o6] S') :
    wSs Δ [rgB, rgC, rgD kd, rgE] D [some (.loc t), some (.loc l), some (.int z), o3, some (.int m), o5, o6] S := by
  have b2 : 2 ≤ big := by decide
  refine ⟨_, rfl, _, rfl, b2, _, rfl, _, rfl, _, rfl, b2, b2, ?_⟩
  have A5 := A.push (o := SO.lst [.tup [.int z, .int ((z : Int) + 1)], .tup [.int z, .int ((z : Int) + m)]])
  have h5 : (S ++ [SO.lst [.tup [.int z, .int ((z : Int) + 1)], .tup [.int z, .int ((z : Int) + m)]]])[S.length]? = some (.lst ([(z, z + 1), (z, z + m)].map pairS)) := by
    rw [at_new]
    show _ = some (SO.lst [.tup [.int z, .int ((z + 1 : Nat) : Int)], .tup [.int z, .int ((z + m : Nat) : Int)]])
    rw [Int.natCast_add, Int.natCast_add]; rfl
  have ntt : S.length ≠ t := by have := A.tape.lt; omega
  have hlr : l < S.length := lt_of A.at'
  generalize S.length = lr at *
  generalize S ++ [SO.lst [.tup [.int z, .int ((z : Int) + 1)], .tup [.int z, .int ((z : Int) + m)]]] = S5 at *
  have up : En (z + m + 1) fs := fun e he => by have := hf e he; exact ⟨this.1, by omega⟩
  refine ⟨_, rfl, _, rfl, ifD (fun h => ?_) (fun h => ss_nil ?_)⟩
  · have hm2 : m = 2 := by omega
    subst hm2
    refine ⟨_, rfl, ⟨_, _, rfl, h5⟩, _, rfl, _, rfl, b2, _, h5, by show 2 < 100000; omega, ?_⟩
    have e6 : [(z, z + 1), (z, z + 2)].map pairS ++ [SV.tup [.int ((z : Int) + 1), .int ((z : Int) + 2)]] = [(z, z + 1), (z, z + 2), (z + 1, z + 2)].map pairS := rfl
    rw [e6]
    have h6 : (S5.set lr (.lst ([(z, z + 1), (z, z + 2), (z + 1, z + 2)].map pairS)))[lr]? = some (.lst ([(z, z + 1), (z, z + 2), (z + 1, z + 2)].map pairS)) := at_self h5
    have A6 : Ah t S0 (S5.set lr (.lst ([(z, z + 1), (z, z + 2), (z + 1, z + 2)].map pairS))) l fs := ⟨A5.tape.other ntt, A5.on.new (by have := A5.new; omega), by rw [at_ne (by omega)]; exact A5.at', A5.new, A5.t0⟩
    dsimp only [List.set]
    refine rg_row hΔ hd (n := z + 2 + 1) A6 h6 ntt (by omega) up (fun e he => ?_) fl (by simp) fun fs' o6 S' A' hf' fl' => q fs' _ o6 S' A' hf' (by simp at fl'; omega)
    simp at he
    rcases he with rfl | rfl | rfl <;> simp
  · dsimp only [List.set]
    refine rg_row hΔ hd (n := z + m + 1) A5 h5 ntt (by omega) up (fun e he => ?_) fl (by simp) fun fs' o6 S' A' hf' fl' => q fs' _ o6 S' A' hf' (by simp at fl'; omega)
    simp at he
    rcases he with rfl | rfl
    · exact ⟨by show z < z + 1; omega, by show z + 1 < z + m + 1; omega⟩
    · exact ⟨by show z < z + m; omega, by show z + m < z + m + 1; omega⟩
noncomputable def RingsSp (s : Sn) : Prop := ∀ {t : Nat} {S : Sto} {Q : QE}, TapeS S t → (∀ (n : Nat) (es : List (Nat × Nat)) (S' : Sto), En n es → n ≤ 17 → es.length ≤ 24 → TapeS S' t → On t S S' → Q (webS n es) S') → s [.loc t] S Q
theorem rings_sp (hΔ : ∀ f, MonoN (Δ f)) (hd : DrawSp (Δ kd)) {D : Df} (hb : D.body = bRings kd) (hN : D.N.length = 7) (hp : D.ps.length = 1) : RingsSp (wDef Δ D) := by
  intro t S Q T q
  unfold wDef
  rw [hb, hN]
  refine ⟨hp.symm, by show 0 ≤ big; decide, ?_⟩
  have t0 := T.lt
  have A0 : Ah t S (S ++ [SO.lst []]) S.length [] := ⟨T.push, (On.refl t S).push, at_new, Nat.le_refl _, t0⟩
  generalize S.length = l at *
  generalize S ++ [SO.lst []] = S1 at *
  refine ⟨_, rfl, hd A0.tape (by decide) (by decide) fun r S2 r0 r1 T2 O2 _ => ⟨_, rfl, ⟨by omega, by omega⟩, ?_⟩⟩
  refine loop_inv (ss_mono hΔ _) (fun i ρ S' => ∃ (z : Nat) (fs : List (Nat × Nat)) (o3 o4 o5 o6 : Option SV), ρ = [some (.loc t), some (.loc l), some (.int z), o3, o4, o5, o6] ∧ Ah t S S' l fs ∧ En (z + 1) fs ∧ z ≤ 2 * i ∧ fs.length ≤ 3 * i) ⟨0, [], none, none, none, none, rfl, A0.draw T2 O2, (fun _ h => nomatch h), Nat.le_refl _, Nat.le_refl _⟩ (fun _ _ _ _ => trivial) ?_ ?_
  · rintro i x ρ S3 hx ⟨z, fs, o3, o4, o5, o6, rfl, A3, hf, hz, fl⟩
    obtain ⟨rfl, hi⟩ := rng_get hx
    refine ⟨_, rfl, hd A3.tape (by decide) (by decide) fun u S4 u0 u1 T4 O4 _ => ?_⟩
    have A4 := A3.draw T4 O4
    by_cases hu : 0 < u
    · show wSs Δ [rgB, rgC, rgD kd, rgE] _ [some (.loc t), some (.loc l), some (.int z), _, some (.int (1 + if decide (0 < u) = true then 1 else 0)), o5, o6] S4
      rw [decide_eq_true hu]
      exact rg_turn (m := 2) hΔ hd A4 hf (by omega) (.inr rfl) fun fs' o5 o6 S' A' hf' fl' => ⟨_, fs', _, _, _, _, rfl, A', hf', by omega, by omega⟩
    · show wSs Δ [rgB, rgC, rgD kd, rgE] _ [some (.loc t), some (.loc l), some (.int z), _, some (.int (1 + if decide (0 < u) = true then 1 else 0)), o5, o6] S4
      rw [decide_eq_false hu]
      exact rg_turn (m := 1) hΔ hd A4 hf (by omega) (.inl rfl) fun fs' o5 o6 S' A' hf' fl' => ⟨_, fs', _, _, _, _, rfl, A', hf', by omega, by omega⟩
  · rintro ρ S3 ⟨z, fs, o3, o4, o5, o6, rfl, A3, hf, hz, fl⟩
    rw [rng_len] at hz fl
    refine ⟨_, rfl, _, rfl, _, seq_loc A3.at', by show 2 ≤ big; decide, ?_⟩
    have q := q (z + 1) fs S3 hf (by omega) (by omega) A3.tape A3.on
    exact q
end
end Rf
set_option Elab.async false
set_option linter.all false
set_option maxRecDepth 100000
set_option maxHeartbeats 1000000
namespace Rf
open PySem L2
noncomputable def jw1 (kw : Nat) : Stm := (.asg (.nm 1) (.call kw (.cons (.var 0) (.cons (.c (.bl false)) .nil))))
noncomputable def jw2 (kd kr : Nat) : Stm := (.iff (.cmp .Eq (.call kd (.cons (.var 0) (.cons (.c (.int 6)) .nil))) (.c (.int 0))) [(.asg (.nm 1) (.call kr (.cons (.var 0) .nil)))] [])
noncomputable def jw3 (kd kw kj : Nat) : Stm := (.loop (.nm 2) (.rng1 (.op .Mult (.call kd (.cons (.var 0) (.cons (.c (.int 3)) .nil))) (.bi .int (.cons (.cmp .Lt (.ix (.var 1) (.c (.int 0))) (.c (.int 8))) .nil)))) [(.asg (.nm 1) (.call kj (.cons (.var 0) (.cons (.var 1) (.cons (.call kw (.cons (.var 0) (.cons (.c (.bl false)) .nil))) .nil)))))])
noncomputable def jwT : Stm := (.asg (.nm 1) (.tup (.cons (.op .Add (.ix (.var 1) (.c (.int 0))) (.ix (.var 3) (.c (.int 0)))) (.cons (.op .Add (.ix (.var 1) (.c (.int 1))) (.bi .tuple (.cons (.comp ["_law_one", "_law_other"] ["_law_web_here"] [1] (.tup (.cons (.nm 0) (.cons (.nm 1) .nil))) (.seq (.ix (.var 3) (.c (.int 1)))) .no (.tup (.cons (.op .Add (.var 0) (.ix (.var 2) (.c (.int 0)))) (.cons (.op .Add (.var 1) (.ix (.var 2) (.c (.int 0)))) .nil)))) .nil))) .nil))))
noncomputable def jw4 (kd kw : Nat) : Stm := (.iff (.cmp .Eq (.call kd (.cons (.var 0) (.cons (.c (.int 8)) .nil))) (.c (.int 0))) [(.asg (.nm 3) (.call kw (.cons (.var 0) (.cons (.c (.bl false)) .nil)))), jwT] [])
noncomputable def jw5 : Stm := (.ret (.var 1))
noncomputable def bJoinedWeb (kd kw kj kr : Nat) : List Stm := [jw1 kw, jw2 kd kr, jw3 kd kw kj, jw4 kd kw, jw5]
noncomputable def JWSp (s : Sn) : Prop := ∀ {t : Nat} {S : Sto} {Q : QE}, TapeS S t → (∀ (n : Nat) (es : List (Nat × Nat)) (S' : Sto), WebC n es → TapeS S' t → On t S S' → Q (webS n es) S') → s [.loc t] S Q
section
variable {Δ : Nat → Sn} {kd kw kj kr : Nat}
noncomputable def shE (k : Nat) (e : Nat × Nat) : Nat × Nat := (e.1 + k, e.2 + k)
theorem jw_last (hΔ : ∀ f, MonoN (Δ f)) (hd : DrawSp (Δ kd)) (hw : WebSp (Δ kw)) {t n : Nat} {es : List (Nat × Nat)} {S0 S : Sto} {Q : QE} {o2 o3 : Option SV} (T : TapeS S t) (O : On t S0 S) (he : En n es) (hn : n ≤ 60) (hl : es.length ≤ 300)
    (q : ∀ (n : Nat) (es : List (Nat × Nat)) (S' : Sto), WebC n es → TapeS S' t → On t S0 S' → Q (webS n es) S') : wSs Δ [jw4 kd kw, jw5] (endsOf Q) [some (.loc t), some (webS n es), o2, o3] S := by
  refine ⟨_, rfl, hd T (by decide) (by decide) fun r S2 r0 r1 T2 O2 _ => ⟨_, rfl, ifD (fun h => ?_) (fun h => ss_nil ⟨_, rfl, q n es S2 ⟨he, by omega, by omega⟩ T2 (O.trans O2)⟩)⟩⟩
  refine ⟨_, rfl, hw T2 fun m fs S3 W T3 O3 => ?_⟩
  have hm := W.few
  have hfl := W.len
  refine ⟨_, rfl, _, _, rfl, rfl, _, rfl, _, _, rfl, rfl, _, rfl, _, _, rfl, rfl, _, rfl, _, _, rfl, rfl, _, rfl, ?_⟩
  refine turns_inv (eo_mono hΔ _).2 (ex_mono hΔ _).1 (fun i ys S4 => S4 = S3 ∧ ys = ((fs.take i).map (shE n)).map pairS) ⟨rfl, rfl⟩ (fun _ _ _ _ => trivial) ?_ ?_
  · rintro i x ys S4 hx ⟨rfl, rfl⟩
    obtain ⟨e, hei, rfl⟩ := pair_get hx
    have hil := (List.getElem?_eq_some_iff.mp hei).1
    refine ⟨_, rfl, _, rfl, _, _, rfl, rfl, _, rfl, _, rfl, _, _, rfl, rfl, by show 2 ≤ big; decide, by rw [List.length_map, List.length_map, List.length_take]; show _ < 100000; omega, rfl, ?_⟩
    rw [List.take_succ, hei, List.map_append, List.map_append]
    rfl
  · rintro ys S4 ⟨rfl, rfl⟩
    rw [List.length_map, List.take_length]
    refine ⟨_, seq_loc at_new, by rw [List.length_map, List.length_map, List.length_map]; show _ ≤ 100000; omega, by show 2 ≤ big; decide, ?_⟩
    rw [← List.map_append]
    refine ⟨_, rfl, q (n + m) (es ++ fs.map (shE n)) _ ⟨fun e h => ?_, by rw [List.length_append, List.length_map]; omega, by omega⟩ T3.push ((O.trans O2).trans O3).push⟩
    rcases List.mem_append.mp h with h | h
    · have := he e h; exact ⟨this.1, by omega⟩
    · obtain ⟨f, hf, rfl⟩ := List.mem_map.mp h
      have := W.en f hf
      exact ⟨by show f.1 + n < f.2 + n; omega, by show f.2 + n < n + m; omega⟩
theorem jw_rest (hΔ : ∀ f, MonoN (Δ f)) (hd : DrawSp (Δ kd)) (hw : WebSp (Δ kw)) (hj : JoinedSp (Δ kj)) {t n : Nat} {es : List (Nat × Nat)} {S0 S : Sto} {Q : QE} (T : TapeS S t) (O : On t S0 S) (he : En n es) (hn : n ≤ 17) (hl : es.length ≤ 61)
    (q : ∀ (n : Nat) (es : List (Nat × Nat)) (S' : Sto), WebC n es → TapeS S' t → On t S0 S' → Q (webS n es) S') : wSs Δ [jw3 kd kw kj, jw4 kd kw, jw5] (endsOf Q) [some (.loc t), some (webS n es), none, none] S := by
  refine ⟨_, rfl, hd T (by decide) (by decide) fun r S2 r0 r1 T2 O2 _ => ⟨_, rfl, _, _, rfl, rfl, .inl ⟨by omega, by omega⟩, ?_⟩⟩
  have hz : ∃ m : Nat, r * (if decide ((n : Int) < 8) = true then 1 else 0) = (m : Int) ∧ m ≤ 2 := by
    by_cases h : (n : Int) < 8
    · rw [decide_eq_true h]; exact ⟨r.toNat, by rw [if_pos rfl]; omega, by omega⟩
    · rw [decide_eq_false h]; exact ⟨0, by simp, by omega⟩
  obtain ⟨m, em, hm⟩ := hz
  refine ⟨_, congrArg SV.int em, ⟨by omega, by omega⟩, ?_⟩
  refine loop_inv (ss_mono hΔ _) (fun i ρ S' => ∃ (n : Nat) (es : List (Nat × Nat)) (o2 : Option SV), ρ = [some (.loc t), some (webS n es), o2, none] ∧ TapeS S' t ∧ On t S0 S' ∧ En n es ∧ n ≤ 17 + 12 * i ∧ es.length ≤ 61 + 61 * i) ⟨n, es, none, rfl, T2, O.trans O2, he, by omega, by omega⟩ (fun _ _ _ _ => trivial) ?_ ?_
  · rintro i x ρ S3 hx ⟨n', es', o2, rfl, T3, O3, he', hn', hl'⟩
    obtain ⟨rfl, hi⟩ := rng_get hx
    refine ⟨_, rfl, _, rfl, _, rfl, hw T3 fun m' fs S4 W T4 O4 => ?_⟩
    have hm' := W.few
    have hfl := W.len
    refine hj T4 he' W.en (by omega) (by omega) (by omega) (by omega) fun n'' es'' S5 he'' hn'' hl'' T5 O5 => ⟨n'', es'', _, rfl, T5, (O3.trans O4).trans O5, he'', by omega, by omega⟩
  · rintro ρ S3 ⟨n', es', o2, rfl, T3, O3, he', hn', hl'⟩
    rw [rng_len] at hn' hl'
    exact jw_last hΔ hd hw T3 O3 he' (by omega) (by omega) q
theorem joinedWeb_sp (hΔ : ∀ f, MonoN (Δ f)) (hd : DrawSp (Δ kd)) (hw : WebSp (Δ kw)) (hj : JoinedSp (Δ kj)) (hr : RingsSp (Δ kr)) {D : Df} (hb : D.body = bJoinedWeb kd kw kj kr) (hN : D.N.length = 4) (hp : D.ps.length = 1) : JWSp (wDef Δ D) := by
  intro t S Q T q
  unfold wDef
  rw [hb, hN]
  refine ⟨hp.symm, _, rfl, hw T fun n es S2 W T2 O2 => ?_⟩
  have hm := W.few
  have hl := W.len
  refine ⟨_, rfl, hd T2 (by decide) (by decide) fun r S3 r0 r1 T3 O3 _ => ⟨_, rfl, ifD (fun h => ?_) (fun h => ss_nil ?_)⟩⟩
  · refine ⟨_, rfl, hr T3 fun n' es' S4 he' hn' hl' T4 O4 => ?_⟩
    exact jw_rest hΔ hd hw hj T4 ((O2.trans O3).trans O4) he' (by omega) (by omega) q
  · exact jw_rest hΔ hd hw hj T3 (O2.trans O3) W.en (by omega) (by omega) q
end
end Rf
set_option Elab.async false
set_option linter.all false
set_option maxRecDepth 100000
set_option maxHeartbeats 1000000
namespace Hue
open PySem L2 Rf
theorem hW (d : Nat) : ∀ f, MonoN (W prog d f) := W_mono d
theorem s0 (d : Nat) : IsNumSp (W prog (d + 1) 0) := isNum_sp (Δ := W prog d) (D := d0) rfl rfl rfl
theorem s1 (d : Nat) : HasPlaceSp (W prog (d + 2) 1) := hasPlace_sp (Δ := W prog (d + 1)) (D := d1) (s0 d) rfl rfl rfl
theorem s2 (d : Nat) : HasTieSp (W prog (d + 2) 2) := hasTie_sp (Δ := W prog (d + 1)) (D := d2) (s0 d) rfl rfl rfl
theorem s3 (d : Nat) : CheckPlaceSp (W prog (d + 3) 3) := checkPlace_sp (Δ := W prog (d + 2)) (D := d3) (s1 d) rfl rfl rfl
theorem s4 (d : Nat) : CheckTieSp (W prog (d + 3) 4) := checkTie_sp (Δ := W prog (d + 2)) (D := d4) (s2 d) rfl rfl rfl
theorem s5 (d : Nat) : TiesAtSp (W prog (d + 4) 5) := tiesAt_sp (Δ := W prog (d + 3)) (D := d5) (hW _) (s3 d) rfl rfl rfl
theorem s6 (d : Nat) : PartsNSp (W prog (d + 1) 6) := partsN_sp (Δ := W prog d) (D := d6) (hW _) rfl rfl rfl
theorem s7 (d : Nat) : OnlySp (W prog (d + 4) 7) := only_sp (Δ := W prog (d + 3)) (D := d7) (hW _) (s4 d) rfl rfl rfl
theorem s8 (d : Nat) : WithoutSp (W prog (d + 5) 8) := without_sp (Δ := W prog (d + 4)) (D := d8) (hW _) (s5 d) (s7 d) rfl rfl rfl
theorem s9 (d : Nat) : CutsSp (W prog (d + 6) 9) := cuts_sp (Δ := W prog (d + 5)) (D := d9) (hW _) (s6 (d + 4)) (s8 d) rfl rfl rfl
theorem s10 (d : Nat) : TapeSp (W prog (d + 1) 10) := tape_sp (Δ := W prog d) (D := d10) rfl rfl rfl
theorem s11 (d : Nat) : DrawSp (W prog (d + 1) 11) := draw_sp (Δ := W prog d) (D := d11) rfl rfl rfl
theorem s12 (d : Nat) : PairsSp (W prog (d + 2) 12) := pairs_sp (Δ := W prog (d + 1)) (D := d12) (hW _) (s11 d) rfl rfl rfl
theorem s13 (d : Nat) : WebSp (W prog (d + 3) 13) := web_sp (Δ := W prog (d + 2)) (D := d13) (hW _) (s11 (d + 1)) (s12 d) rfl rfl rfl
theorem s14 (d : Nat) : SomeSp (W prog (d + 4) 14) := some_sp (Δ := W prog (d + 3)) (D := d14) (s11 (d + 2)) (s13 d) rfl rfl rfl
theorem s15 (d : Nat) : JoinedSp (W prog (d + 2) 15) := joined_sp (Δ := W prog (d + 1)) (D := d15) (hW _) (s11 d) rfl rfl rfl
theorem s16 (d : Nat) : RingsSp (W prog (d + 2) 16) := rings_sp (Δ := W prog (d + 1)) (D := d16) (hW _) (s11 d) rfl rfl rfl
theorem s17 (d : Nat) : JWSp (W prog (d + 4) 17) := joinedWeb_sp (Δ := W prog (d + 3)) (D := d17) (hW _) (s11 (d + 2)) (s13 d) (s15 (d + 1)) (s16 (d + 1)) rfl rfl rfl
theorem s18 (d : Nat) : BesideSp (W prog (d + 1) 18) := beside_sp (Δ := W prog d) (D := d18) (hW _) rfl rfl rfl
theorem s19 (d : Nat) : WideSp (W prog (d + 2) 19) := wide_sp (Δ := W prog (d + 1)) (D := d19) (hW _) (s11 d) rfl rfl rfl
theorem s20 (d : Nat) : CutsSp (W prog (d + 2) 20) := lawCuts_sp (Δ := W prog (d + 1)) (D := d20) (hW _) (s18 d) rfl rfl rfl
noncomputable def Lc : Stm := (.iff (.and (.cmp .Eq (.var 1) (.c (.int 0))) (.cmp .Eq (.call 11 (.cons (.var 2) (.cons (.c (.int 16)) .nil))) (.c (.int 0)))) [(.asg (.nm 3) (.call 19 (.cons (.var 2) .nil)))] [])
noncomputable def Ld : Stm := (.asg (.nm 4) (.call 20 (.cons (.var 3) .nil)))
noncomputable def Le : Stm := (.loop (.nm 5) (.rng1 (.c (.int 2))) [(.asg (.nm 6) (.call 9 (.cons (.var 3) .nil))), (.iff (.or (.not (.bi .isi (.cons (.var 6) (.cons (.tyc .list) .nil)))) (.or (.cmp .NotEq (.var 6) (.var 4)) (.bi .any (.cons (.comp ["_law_place"] [] [] (.nm 0) (.seq (.var 6)) .no (.bi .isi (.cons (.var 0) (.cons (.tyc .bool) .nil)))) .nil)))) [(.ret (.c (.bl false)))] []), (.expr (.mt .append (.var 6) (.cons (.neg (.c (.int 1))) .nil)))])
theorem eqSs_self (xs : List Nat) : eqSs (natS xs) (natS xs) = true := by
  unfold eqSs natS
  simp only [beq_self_eq_true, Bool.true_and]
  rw [List.all_eq_true]
  intro p hp
  rw [List.zip_map'] at hp
  obtain ⟨i, _, rfl⟩ := List.mem_map.mp hp
  simp [eqF]
theorem tail_sp {D : EndsS} {n : Nat} {es : List (Nat × Nat)} {S : Sto} {o0 o1 o2 o4 o5 o6 : Option SV} (H : WebC n es) (q : ∀ (o4 o5 o6 : Option SV) (S' : Sto), D.nx [o0, o1, o2, some (webS n es), o4, o5, o6] S') : wSs (W prog 6) [Ld, Le] D [o0, o1, o2, some (webS n es), o4, o5, o6] S := by
  have hf := H.few
  refine ⟨_, rfl, s20 4 H fun ld S1 G1 hl1 h1 => ?_⟩
  refine ⟨_, rfl, ⟨by decide, by decide⟩, ?_⟩
  refine loop_inv (ss_mono (hW _) _) (fun i ρ S' => ∃ o5 o6, ρ = [o0, o1, o2, some (webS n es), some (.loc ld), o5, o6] ∧ S'[ld]? = some (.lst (natS (cutL n es n)))) ⟨o5, o6, rfl, h1⟩ (fun _ _ _ _ => trivial) ?_ ?_
  · rintro i x ρ S2 hx ⟨o5, o6, rfl, h2⟩
    refine ⟨_, rfl, s9 0 H fun l S3 G3 hl3 h3 => ?_⟩
    have hd := G3.keep _ _ h2
    have ne : l ≠ ld := by have := lt_of h2; omega
    have hcl := cutL_len n es n
    refine ⟨_, rfl, _, nofun, ty_loc h3, _, rfl, ifF rfl ⟨_, rfl, _, rfl, _, _, h3, hd, .inl ⟨natS_flat _, natS_flat _⟩, _, rfl, ifF (by rw [eqSs_self]; rfl) ?_⟩⟩
    refine ⟨_, rfl, _, seq_loc h3, ?_⟩
    refine turns_bl (hW _) (b := false) (by rw [natS_len]; omega) (fun S' G => by show S'[l]? = S3[l]?; rw [h3, G.keep _ _ h3]) ?_ ?_
    · intro j y S' hy G
      obtain ⟨p, _, rfl⟩ := nat_get hy
      exact ⟨_, rfl, _, nofun, rfl, rfl, G⟩
    intro S4 G4
    refine ⟨_, _, nofun, seq_loc at_new, bl_rep _ _, _, rfl, ifF (any_rep _) (ss_nil ?_)⟩
    have h4 := at_old (o := SO.lst (List.replicate (natS (cutL n es n)).length (.bl false))) (G4.keep _ _ h3)
    have h4d := at_old (o := SO.lst (List.replicate (natS (cutL n es n)).length (.bl false))) (G4.keep _ _ hd)
    refine ⟨_, rfl, ⟨_, _, rfl, h4⟩, _, h4, by rw [natS_len]; show _ < 100000; omega, ?_⟩
    exact ⟨_, _, rfl, by rw [at_ne ne]; exact h4d⟩
  · rintro ρ S2 ⟨o5, o6, rfl, h2⟩
    exact q _ _ _ _
theorem wide_tail {D : EndsS} {t n : Nat} {k : Int} {es : List (Nat × Nat)} {S : Sto} {o0 o4 o5 o6 : Option SV} (H : WebC n es) (T : TapeS S t) (q : ∀ (o3 o4 o5 o6 : Option SV) (S' : Sto), D.nx [o0, some (.int k), some (.loc t), o3, o4, o5, o6] S') : wSs (W prog 6) [Lc, Ld, Le] D [o0, some (.int k), some (.loc t), some (webS n es), o4, o5, o6] S := by
  refine ⟨_, rfl, _, rfl, ifD (fun h => ?_) (fun h => ifF rfl (ss_nil ?_))⟩
  · refine ⟨_, rfl, s11 5 T (by decide) (by decide) fun r S2 r0 r1 T2 O2 _ => ⟨_, rfl, ifD (fun h => ?_) (fun h => ss_nil ?_)⟩⟩
    · refine ⟨_, rfl, s19 4 T2 fun n' es' S3 H' T3 O3 => ?_⟩
      dsimp only [List.set]
      have h1 := H'.len
      have h2 := H'.few
      exact tail_sp ⟨H'.en, by omega, by omega⟩ fun o4 o5 o6 S' => q _ _ _ _ _
    · dsimp only
      exact tail_sp H fun o4 o5 o6 S' => q _ _ _ _ _
  · dsimp only
    exact tail_sp H fun o4 o5 o6 S' => q _ _ _ _ _
theorem law_main (ns : List Int) (h : ns.length ≤ 63) : W prog 7 21 [.ro (ns.map SV.int)] [] fun x _ => x = .bl true := by
  show wDef (W prog 6) d21 _ _ _
  have hj : ∃ m : Nat, (if (if (4 : Int) < ((ns.map SV.int).length : Int) then 4 else ((ns.map SV.int).length : Int)) > 2 then (if (4 : Int) < ((ns.map SV.int).length : Int) then 4 else ((ns.map SV.int).length : Int)) else 2) = (m : Int) ∧ m ≤ 4 := by
    rw [List.length_map]
    generalize ns.length = k
    refine ⟨max 2 (min k 4), ?_, by omega⟩
    split <;> split <;> omega
  obtain ⟨m, hm, hm4⟩ := hj
  refine ⟨rfl, _, rfl, _, rfl, m, congrArg SV.int hm, ⟨by omega, by omega⟩, ?_⟩
  refine loop_inv (ss_mono (hW _) _) (fun i ρ S' => ∃ o1 o2 o3 o4 o5 o6, ρ = [some (.ro (ns.map SV.int)), o1, o2, o3, o4, o5, o6]) ⟨none, none, none, none, none, none, rfl⟩ (fun _ _ _ _ => trivial) ?_ ?_
  · rintro i x ρ S hx ⟨o1, o2, o3, o4, o5, o6, rfl⟩
    obtain ⟨rfl, hi⟩ := rng_get hx
    rw [Int.zero_add] at hi ⊢
    refine ⟨_, rfl, _, rfl, s10 5 h (by omega) fun a b ha hb hb2 => ?_⟩
    have T1 : TapeS (S ++ [SO.lst [.int a, .int b]]) S.length := ⟨a, b, at_new, ha, hb, hb2⟩
    refine ⟨_, rfl, s11 5 T1 (by decide) (by decide) fun r S2 r0 r1 T2 O2 _ => ⟨_, rfl, ifD (fun hr => ?_) (fun hr => ?_)⟩⟩
    · refine ⟨_, rfl, s14 2 T2 fun n es S3 Wb T3 O3 => ?_⟩
      have h1 := Wb.len
      have h2 := Wb.few
      dsimp only [List.set]
      exact wide_tail ⟨Wb.en, by omega, by omega⟩ T3 fun o3 o4 o5 o6 S' => ⟨_, _, _, _, _, _, rfl⟩
    · refine ⟨_, rfl, s17 2 T2 fun n es S3 H T3 O3 => ?_⟩
      dsimp only [List.set]
      exact wide_tail H T3 fun o3 o4 o5 o6 S' => ⟨_, _, _, _, _, _, rfl⟩
  · rintro ρ S ⟨o1, o2, o3, o4, o5, o6, rfl⟩
    exact rfl
end Hue
set_option Elab.async false
set_option linter.all false
set_option maxRecDepth 100000
set_option maxHeartbeats 4000000
namespace Hue
open PySem L2 Rf
theorem all_mk {l : PySem.W.OpenLaw} {w : World} {K : PySem.W.Frag} {h : Heap} {mg : Str → Option Value} {fa f0 f1 f2 f3 f4 f5 f6 f7 f8 f9 f10 f11 f12 f13 f14 f15 f16 f17 f18 f19 f20 f21 : Addr} (X : K.In h) (G : h.Ns mainGlobals mg) (hfa : mg "law" = some (.ref fa))
    {od0 an0 od1 an1 od2 an2 od3 an3 od4 an4 od5 an5 od6 an6 od7 an7 od8 an8 od9 an9 od10 an10 od11 an11 od12 an12 od13 an13 od14 an14 od15 an15 od16 an16 od17 an17 od18 an18 od19 an19 od20 an20 od21 an21 : Option Addr} {sl0 sl1 sl2 sl3 sl4 sl5 sl6 sl7 sl8 sl9 sl10 sl11 sl12 sl13 sl14 sl15 sl16 sl17 sl18 sl19 sl20 sl21 : Array (Option Value)}
    {oc0 kV0 dc0 pm0 cd0 ct0 oc1 kV1 dc1 pm1 cd1 ct1 oc2 kV2 dc2 pm2 cd2 ct2 oc3 kV3 dc3 pm3 cd3 ct3 oc4 kV4 dc4 pm4 cd4 ct4 oc5 kV5 dc5 pm5 cd5 ct5 oc6 kV6 dc6 pm6 cd6 ct6 oc7 kV7 dc7 pm7 cd7 ct7 oc8 kV8 dc8 pm8 cd8 ct8 oc9 kV9 dc9 pm9 cd9 ct9 oc10 kV10 dc10 pm10 cd10 ct10 oc11 kV11 dc11 pm11 cd11 ct11 oc12 kV12 dc12 pm12 cd12 ct12 oc13 kV13 dc13 pm13 cd13 ct13 oc14 kV14 dc14 pm14 cd14 ct14 oc15 kV15 dc15 pm15 cd15 ct15 oc16 kV16 dc16 pm16 cd16 ct16 oc17 kV17 dc17 pm17 cd17 ct17 oc18 kV18 dc18 pm18 cd18 ct18 oc19 kV19 dc19 pm19 cd19 ct19 oc20 kV20 dc20 pm20 cd20 ct20 oc21 kV21 dc21 pm21 cd21 ct21 : Value}
    (a0 : PySem.W.nsIn K mainGlobals "is_number" = some (some (.ref f0))) (l0 : K.lookup f0 = some ⟨oc0, od0, .func (PySem.W.fnOf "is_number" "is_number" (defArgs (top 5)) (defBody (top 5)) (defScope (top 5)) .none kV0 dc0 pm0 an0 cd0 ct0), sl0⟩) (c0 : PySem.W.codeIn K cd0 "is_number" = true) (k0 : PySem.W.keepIn K (.ref f0) = true)
    (a1 : PySem.W.nsIn K mainGlobals "has_place" = some (some (.ref f1))) (l1 : K.lookup f1 = some ⟨oc1, od1, .func (PySem.W.fnOf "has_place" "has_place" (defArgs (top 7)) (defBody (top 7)) (defScope (top 7)) .none kV1 dc1 pm1 an1 cd1 ct1), sl1⟩) (c1 : PySem.W.codeIn K cd1 "has_place" = true) (k1 : PySem.W.keepIn K (.ref f1) = true)
    (a2 : PySem.W.nsIn K mainGlobals "has_tie" = some (some (.ref f2))) (l2 : K.lookup f2 = some ⟨oc2, od2, .func (PySem.W.fnOf "has_tie" "has_tie" (defArgs (top 8)) (defBody (top 8)) (defScope (top 8)) .none kV2 dc2 pm2 an2 cd2 ct2), sl2⟩) (c2 : PySem.W.codeIn K cd2 "has_tie" = true) (k2 : PySem.W.keepIn K (.ref f2) = true)
    (a3 : PySem.W.nsIn K mainGlobals "check_place" = some (some (.ref f3))) (l3 : K.lookup f3 = some ⟨oc3, od3, .func (PySem.W.fnOf "check_place" "check_place" (defArgs (top 9)) (defBody (top 9)) (defScope (top 9)) .none kV3 dc3 pm3 an3 cd3 ct3), sl3⟩) (c3 : PySem.W.codeIn K cd3 "check_place" = true) (k3 : PySem.W.keepIn K (.ref f3) = true)
    (a4 : PySem.W.nsIn K mainGlobals "check_tie" = some (some (.ref f4))) (l4 : K.lookup f4 = some ⟨oc4, od4, .func (PySem.W.fnOf "check_tie" "check_tie" (defArgs (top 10)) (defBody (top 10)) (defScope (top 10)) .none kV4 dc4 pm4 an4 cd4 ct4), sl4⟩) (c4 : PySem.W.codeIn K cd4 "check_tie" = true) (k4 : PySem.W.keepIn K (.ref f4) = true)
    (a5 : PySem.W.nsIn K mainGlobals "ties_at" = some (some (.ref f5))) (l5 : K.lookup f5 = some ⟨oc5, od5, .func (PySem.W.fnOf "ties_at" "ties_at" (defArgs (top 11)) (defBody (top 11)) (defScope (top 11)) .none kV5 dc5 pm5 an5 cd5 ct5), sl5⟩) (c5 : PySem.W.codeIn K cd5 "ties_at" = true) (k5 : PySem.W.keepIn K (.ref f5) = true)
    (a6 : PySem.W.nsIn K mainGlobals "parts" = some (some (.ref f6))) (l6 : K.lookup f6 = some ⟨oc6, od6, .func (PySem.W.fnOf "parts" "parts" (defArgs (top 12)) (defBody (top 12)) (defScope (top 12)) .none kV6 dc6 pm6 an6 cd6 ct6), sl6⟩) (c6 : PySem.W.codeIn K cd6 "parts" = true) (k6 : PySem.W.keepIn K (.ref f6) = true)
    (a7 : PySem.W.nsIn K mainGlobals "only" = some (some (.ref f7))) (l7 : K.lookup f7 = some ⟨oc7, od7, .func (PySem.W.fnOf "only" "only" (defArgs (top 13)) (defBody (top 13)) (defScope (top 13)) .none kV7 dc7 pm7 an7 cd7 ct7), sl7⟩) (c7 : PySem.W.codeIn K cd7 "only" = true) (k7 : PySem.W.keepIn K (.ref f7) = true)
    (a8 : PySem.W.nsIn K mainGlobals "without" = some (some (.ref f8))) (l8 : K.lookup f8 = some ⟨oc8, od8, .func (PySem.W.fnOf "without" "without" (defArgs (top 15)) (defBody (top 15)) (defScope (top 15)) .none kV8 dc8 pm8 an8 cd8 ct8), sl8⟩) (c8 : PySem.W.codeIn K cd8 "without" = true) (k8 : PySem.W.keepIn K (.ref f8) = true)
    (a9 : PySem.W.nsIn K mainGlobals "cuts" = some (some (.ref f9))) (l9 : K.lookup f9 = some ⟨oc9, od9, .func (PySem.W.fnOf "cuts" "cuts" (defArgs (top 16)) (defBody (top 16)) (defScope (top 16)) .none kV9 dc9 pm9 an9 cd9 ct9), sl9⟩) (c9 : PySem.W.codeIn K cd9 "cuts" = true) (k9 : PySem.W.keepIn K (.ref f9) = true)
    (a10 : PySem.W.nsIn K mainGlobals "_law_tape" = some (some (.ref f10))) (l10 : K.lookup f10 = some ⟨oc10, od10, .func (PySem.W.fnOf "_law_tape" "_law_tape" (defArgs (top 18)) (defBody (top 18)) (defScope (top 18)) .none kV10 dc10 pm10 an10 cd10 ct10), sl10⟩) (c10 : PySem.W.codeIn K cd10 "_law_tape" = true) (k10 : PySem.W.keepIn K (.ref f10) = true)
    (a11 : PySem.W.nsIn K mainGlobals "_law_draw" = some (some (.ref f11))) (l11 : K.lookup f11 = some ⟨oc11, od11, .func (PySem.W.fnOf "_law_draw" "_law_draw" (defArgs (top 19)) (defBody (top 19)) (defScope (top 19)) .none kV11 dc11 pm11 an11 cd11 ct11), sl11⟩) (c11 : PySem.W.codeIn K cd11 "_law_draw" = true) (k11 : PySem.W.keepIn K (.ref f11) = true)
    (a12 : PySem.W.nsIn K mainGlobals "_law_pairs_by" = some (some (.ref f12))) (l12 : K.lookup f12 = some ⟨oc12, od12, .func (PySem.W.fnOf "_law_pairs_by" "_law_pairs_by" (defArgs (top 20)) (defBody (top 20)) (defScope (top 20)) .none kV12 dc12 pm12 an12 cd12 ct12), sl12⟩) (c12 : PySem.W.codeIn K cd12 "_law_pairs_by" = true) (k12 : PySem.W.keepIn K (.ref f12) = true)
    (a13 : PySem.W.nsIn K mainGlobals "_law_web" = some (some (.ref f13))) (l13 : K.lookup f13 = some ⟨oc13, od13, .func (PySem.W.fnOf "_law_web" "_law_web" (defArgs (top 21)) (defBody (top 21)) (defScope (top 21)) .none kV13 dc13 pm13 an13 cd13 ct13), sl13⟩) (c13 : PySem.W.codeIn K cd13 "_law_web" = true) (k13 : PySem.W.keepIn K (.ref f13) = true)
    (a14 : PySem.W.nsIn K mainGlobals "_law_some_web" = some (some (.ref f14))) (l14 : K.lookup f14 = some ⟨oc14, od14, .func (PySem.W.fnOf "_law_some_web" "_law_some_web" (defArgs (top 22)) (defBody (top 22)) (defScope (top 22)) .none kV14 dc14 pm14 an14 cd14 ct14), sl14⟩) (c14 : PySem.W.codeIn K cd14 "_law_some_web" = true) (k14 : PySem.W.keepIn K (.ref f14) = true)
    (a15 : PySem.W.nsIn K mainGlobals "_law_joined" = some (some (.ref f15))) (l15 : K.lookup f15 = some ⟨oc15, od15, .func (PySem.W.fnOf "_law_joined" "_law_joined" (defArgs (top 23)) (defBody (top 23)) (defScope (top 23)) .none kV15 dc15 pm15 an15 cd15 ct15), sl15⟩) (c15 : PySem.W.codeIn K cd15 "_law_joined" = true) (k15 : PySem.W.keepIn K (.ref f15) = true)
    (a16 : PySem.W.nsIn K mainGlobals "_law_rings" = some (some (.ref f16))) (l16 : K.lookup f16 = some ⟨oc16, od16, .func (PySem.W.fnOf "_law_rings" "_law_rings" (defArgs (top 24)) (defBody (top 24)) (defScope (top 24)) .none kV16 dc16 pm16 an16 cd16 ct16), sl16⟩) (c16 : PySem.W.codeIn K cd16 "_law_rings" = true) (k16 : PySem.W.keepIn K (.ref f16) = true)
    (a17 : PySem.W.nsIn K mainGlobals "_law_joined_web" = some (some (.ref f17))) (l17 : K.lookup f17 = some ⟨oc17, od17, .func (PySem.W.fnOf "_law_joined_web" "_law_joined_web" (defArgs (top 25)) (defBody (top 25)) (defScope (top 25)) .none kV17 dc17 pm17 an17 cd17 ct17), sl17⟩) (c17 : PySem.W.codeIn K cd17 "_law_joined_web" = true) (k17 : PySem.W.keepIn K (.ref f17) = true)
    (a18 : PySem.W.nsIn K mainGlobals "_law_beside_out" = some (some (.ref f18))) (l18 : K.lookup f18 = some ⟨oc18, od18, .func (PySem.W.fnOf "_law_beside_out" "_law_beside_out" (defArgs (top 26)) (defBody (top 26)) (defScope (top 26)) .none kV18 dc18 pm18 an18 cd18 ct18), sl18⟩) (c18 : PySem.W.codeIn K cd18 "_law_beside_out" = true) (k18 : PySem.W.keepIn K (.ref f18) = true)
    (a19 : PySem.W.nsIn K mainGlobals "_law_wide_web" = some (some (.ref f19))) (l19 : K.lookup f19 = some ⟨oc19, od19, .func (PySem.W.fnOf "_law_wide_web" "_law_wide_web" (defArgs (top 27)) (defBody (top 27)) (defScope (top 27)) .none kV19 dc19 pm19 an19 cd19 ct19), sl19⟩) (c19 : PySem.W.codeIn K cd19 "_law_wide_web" = true) (k19 : PySem.W.keepIn K (.ref f19) = true)
    (a20 : PySem.W.nsIn K mainGlobals "_law_cuts" = some (some (.ref f20))) (l20 : K.lookup f20 = some ⟨oc20, od20, .func (PySem.W.fnOf "_law_cuts" "_law_cuts" (defArgs (top 28)) (defBody (top 28)) (defScope (top 28)) .none kV20 dc20 pm20 an20 cd20 ct20), sl20⟩) (c20 : PySem.W.codeIn K cd20 "_law_cuts" = true) (k20 : PySem.W.keepIn K (.ref f20) = true)
    (a21 : PySem.W.nsIn K mainGlobals "law" = some (some (.ref f21))) (l21 : K.lookup f21 = some ⟨oc21, od21, .func (PySem.W.fnOf "law" "law" (defArgs (top 29)) (defBody (top 29)) (defScope (top 29)) .none kV21 dc21 pm21 an21 cd21 ct21), sl21⟩) (c21 : PySem.W.codeIn K cd21 "law" = true) (k21 : PySem.W.keepIn K (.ref f21) = true)
    (z0 : PySem.W.nsIn K mainGlobals "len" = some none)
    (z1 : PySem.W.nsIn K mainGlobals "abs" = some none)
    (z2 : PySem.W.nsIn K mainGlobals "min" = some none)
    (z3 : PySem.W.nsIn K mainGlobals "max" = some none)
    (z4 : PySem.W.nsIn K mainGlobals "int" = some none)
    (z5 : PySem.W.nsIn K mainGlobals "list" = some none)
    (z6 : PySem.W.nsIn K mainGlobals "tuple" = some none)
    (z7 : PySem.W.nsIn K mainGlobals "all" = some none)
    (z8 : PySem.W.nsIn K mainGlobals "any" = some none)
    (z9 : PySem.W.nsIn K mainGlobals "sorted" = some none)
    (z10 : PySem.W.nsIn K mainGlobals "isinstance" = some none)
    (z11 : PySem.W.nsIn K mainGlobals "str" = some none)
    (z12 : PySem.W.nsIn K mainGlobals "range" = some none)
    (z13 : PySem.W.nsIn K mainGlobals "enumerate" = some none)
    (z14 : PySem.W.nsIn K mainGlobals "zip" = some none)
    (z15 : PySem.W.nsIn K mainGlobals "set" = some none)
    (z16 : PySem.W.nsIn K mainGlobals "bool" = some none)
    (z17 : PySem.W.nsIn K mainGlobals "dict" = some none)
    : ∃ fd : FuncData, (∀ (s : Shared) (v : Value), BindsTo s fd ⟨[v], []⟩ [("_law_script", v)]) ∧ ∀ base : Heap, K.In base → base.Ns mainGlobals mg → FnOk l.prog w K mg base CX0 7 fa fd ["_law_script"] (spS K (W prog 7 21)) := by
  have e := hfa.symm.trans (PySem.W.mg_of X G a21)
  cases e
  have B : Bl mg := by
    refine ⟨fun b => ?_, PySem.W.mg_none_of X G z12, PySem.W.mg_none_of X G z13, PySem.W.mg_none_of X G z14, PySem.W.mg_none_of X G z15, PySem.W.mg_none_of X G z17, fun t ht => ?_⟩
    · cases b with
      | len => exact PySem.W.mg_none_of X G z0
      | abs => exact PySem.W.mg_none_of X G z1
      | min => exact PySem.W.mg_none_of X G z2
      | max => exact PySem.W.mg_none_of X G z3
      | int => exact PySem.W.mg_none_of X G z4
      | list => exact PySem.W.mg_none_of X G z5
      | tuple => exact PySem.W.mg_none_of X G z6
      | all => exact PySem.W.mg_none_of X G z7
      | any => exact PySem.W.mg_none_of X G z8
      | sorted => exact PySem.W.mg_none_of X G z9
      | isi => exact PySem.W.mg_none_of X G z10
      | str => exact PySem.W.mg_none_of X G z11
    · cases t with
      | int => exact PySem.W.mg_none_of X G z4
      | bool => exact PySem.W.mg_none_of X G z16
      | str => exact PySem.W.mg_none_of X G z11
      | list => exact PySem.W.mg_none_of X G z5
      | tuple => exact PySem.W.mg_none_of X G z6
      | none => exact absurd rfl ht
  have p0 : PIn K mg d0 := ⟨_, _, fun_mk (st := top 5) l0 c0 k0, PySem.W.mg_of X G a0, k0, (fun_mk (st := top 5) l0 c0 k0).binds (ps := ["thing"]) fun _ _ _ _ _ _ => ofL1 fun _ => rfl⟩
  have p1 : PIn K mg d1 := ⟨_, _, fun_mk (st := top 7) l1 c1 k1, PySem.W.mg_of X G a1, k1, (fun_mk (st := top 7) l1 c1 k1).binds (ps := ["web", "place"]) fun _ _ _ _ _ _ => ofL2 fun _ _ => rfl⟩
  have p2 : PIn K mg d2 := ⟨_, _, fun_mk (st := top 8) l2 c2 k2, PySem.W.mg_of X G a2, k2, (fun_mk (st := top 8) l2 c2 k2).binds (ps := ["web", "tie"]) fun _ _ _ _ _ _ => ofL2 fun _ _ => rfl⟩
  have p3 : PIn K mg d3 := ⟨_, _, fun_mk (st := top 9) l3 c3 k3, PySem.W.mg_of X G a3, k3, (fun_mk (st := top 9) l3 c3 k3).binds (ps := ["web", "place"]) fun _ _ _ _ _ _ => ofL2 fun _ _ => rfl⟩
  have p4 : PIn K mg d4 := ⟨_, _, fun_mk (st := top 10) l4 c4 k4, PySem.W.mg_of X G a4, k4, (fun_mk (st := top 10) l4 c4 k4).binds (ps := ["web", "tie"]) fun _ _ _ _ _ _ => ofL2 fun _ _ => rfl⟩
  have p5 : PIn K mg d5 := ⟨_, _, fun_mk (st := top 11) l5 c5 k5, PySem.W.mg_of X G a5, k5, (fun_mk (st := top 11) l5 c5 k5).binds (ps := ["web", "place"]) fun _ _ _ _ _ _ => ofL2 fun _ _ => rfl⟩
  have p6 : PIn K mg d6 := ⟨_, _, fun_mk (st := top 12) l6 c6 k6, PySem.W.mg_of X G a6, k6, (fun_mk (st := top 12) l6 c6 k6).binds (ps := ["web"]) fun _ _ _ _ _ _ => ofL1 fun _ => rfl⟩
  have p7 : PIn K mg d7 := ⟨_, _, fun_mk (st := top 13) l7 c7 k7, PySem.W.mg_of X G a7, k7, (fun_mk (st := top 13) l7 c7 k7).binds (ps := ["web", "ties"]) fun _ _ _ _ _ _ => ofL2 fun _ _ => rfl⟩
  have p8 : PIn K mg d8 := ⟨_, _, fun_mk (st := top 15) l8 c8 k8, PySem.W.mg_of X G a8, k8, (fun_mk (st := top 15) l8 c8 k8).binds (ps := ["web", "place"]) fun _ _ _ _ _ _ => ofL2 fun _ _ => rfl⟩
  have p9 : PIn K mg d9 := ⟨_, _, fun_mk (st := top 16) l9 c9 k9, PySem.W.mg_of X G a9, k9, (fun_mk (st := top 16) l9 c9 k9).binds (ps := ["web"]) fun _ _ _ _ _ _ => ofL1 fun _ => rfl⟩
  have p10 : PIn K mg d10 := ⟨_, _, fun_mk (st := top 18) l10 c10 k10, PySem.W.mg_of X G a10, k10, (fun_mk (st := top 18) l10 c10 k10).binds (ps := ["_law_script", "_law_k"]) fun _ _ _ _ _ _ => ofL2 fun _ _ => rfl⟩
  have p11 : PIn K mg d11 := ⟨_, _, fun_mk (st := top 19) l11 c11 k11, PySem.W.mg_of X G a11, k11, (fun_mk (st := top 19) l11 c11 k11).binds (ps := ["_law_tape_here", "_law_many"]) fun _ _ _ _ _ _ => ofL2 fun _ _ => rfl⟩
  have p12 : PIn K mg d12 := ⟨_, _, fun_mk (st := top 20) l12 c12 k12, PySem.W.mg_of X G a12, k12, (fun_mk (st := top 20) l12 c12 k12).binds (ps := ["_law_tape_here", "_law_great"]) fun _ _ _ _ _ _ => ofL2 fun _ _ => rfl⟩
  have p13 : PIn K mg d13 := ⟨_, _, fun_mk (st := top 21) l13 c13 k13, PySem.W.mg_of X G a13, k13, (fun_mk (st := top 21) l13 c13 k13).binds (ps := ["_law_tape_here", "_law_great"]) fun _ _ _ _ _ _ => ofL2 fun _ _ => rfl⟩
  have p14 : PIn K mg d14 := ⟨_, _, fun_mk (st := top 22) l14 c14 k14, PySem.W.mg_of X G a14, k14, (fun_mk (st := top 22) l14 c14 k14).binds (ps := ["_law_tape_here"]) fun _ _ _ _ _ _ => ofL1 fun _ => rfl⟩
  have p15 : PIn K mg d15 := ⟨_, _, fun_mk (st := top 23) l15 c15 k15, PySem.W.mg_of X G a15, k15, (fun_mk (st := top 23) l15 c15 k15).binds (ps := ["_law_tape_here", "_law_one", "_law_other"]) fun _ _ _ _ _ _ => ofL3 fun _ _ _ => rfl⟩
  have p16 : PIn K mg d16 := ⟨_, _, fun_mk (st := top 24) l16 c16 k16, PySem.W.mg_of X G a16, k16, (fun_mk (st := top 24) l16 c16 k16).binds (ps := ["_law_tape_here"]) fun _ _ _ _ _ _ => ofL1 fun _ => rfl⟩
  have p17 : PIn K mg d17 := ⟨_, _, fun_mk (st := top 25) l17 c17 k17, PySem.W.mg_of X G a17, k17, (fun_mk (st := top 25) l17 c17 k17).binds (ps := ["_law_tape_here"]) fun _ _ _ _ _ _ => ofL1 fun _ => rfl⟩
  have p18 : PIn K mg d18 := ⟨_, _, fun_mk (st := top 26) l18 c18 k18, PySem.W.mg_of X G a18, k18, (fun_mk (st := top 26) l18 c18 k18).binds (ps := ["_law_web_here", "_law_out"]) fun _ _ _ _ _ _ => ofL2 fun _ _ => rfl⟩
  have p19 : PIn K mg d19 := ⟨_, _, fun_mk (st := top 27) l19 c19 k19, PySem.W.mg_of X G a19, k19, (fun_mk (st := top 27) l19 c19 k19).binds (ps := ["_law_tape_here"]) fun _ _ _ _ _ _ => ofL1 fun _ => rfl⟩
  have p20 : PIn K mg d20 := ⟨_, _, fun_mk (st := top 28) l20 c20 k20, PySem.W.mg_of X G a20, k20, (fun_mk (st := top 28) l20 c20 k20).binds (ps := ["_law_web_here"]) fun _ _ _ _ _ _ => ofL1 fun _ => rfl⟩
  have p21 : PIn K mg d21 := ⟨_, _, fun_mk (st := top 29) l21 c21 k21, PySem.W.mg_of X G a21, k21, (fun_mk (st := top 29) l21 c21 k21).binds (ps := ["_law_script"]) fun _ _ _ _ _ _ => ofL1 fun _ => rfl⟩
  have hin : ∀ D ∈ prog, PIn K mg D := by
    unfold prog
    rw [List.forall_mem_cons, List.forall_mem_cons, List.forall_mem_cons, List.forall_mem_cons, List.forall_mem_cons, List.forall_mem_cons, List.forall_mem_cons, List.forall_mem_cons, List.forall_mem_cons, List.forall_mem_cons, List.forall_mem_cons, List.forall_mem_cons, List.forall_mem_cons, List.forall_mem_cons, List.forall_mem_cons, List.forall_mem_cons, List.forall_mem_cons, List.forall_mem_cons, List.forall_mem_cons, List.forall_mem_cons, List.forall_mem_cons, List.forall_mem_cons]
    exact ⟨p0, p1, p2, p3, p4, p5, p6, p7, p8, p9, p10, p11, p12, p13, p14, p15, p16, p17, p18, p19, p20, p21, fun _ h => nomatch h⟩
  refine ⟨PySem.W.fnOf "law" "law" (defArgs (top 29)) (defBody (top 29)) (defScope (top 29)) .none kV21 dc21 pm21 an21 cd21 ct21, fun s v => .of_eq rfl, fun base _ _ => ?_⟩
  exact def_ok (P := l.prog) (w := w) (base := base) (k := 6) (Δ := W prog 6) (D := d21) (fun_mk (st := top 29) l21 c21 k21) (List.all_eq_true.mp prog_chk d21 (List.mem_of_getElem? (show prog[21]? = some d21 from rfl))) B (fun g x hx => by
    rw [List.getElem?_map] at hx
    cases hg : prog[g]? with
    | none => rw [hg] at hx; cases hx
    | some D' =>
      rw [hg] at hx
      have : D'.name = x := by simpa using hx
      subst this
      exact ⟨D'.ps, prog_ok prog_chk B hin 6 g D' hg⟩) (W_mono 6)
theorem walkL {l : PySem.W.OpenLaw} {q : Program} {loose : List Str} {XP : (Str → Option Value) → Heap → Prop} {YP : World → Heap → Prop} {d : DefRec} {K : Params → PySem.W.Frag} (hn : l.most = some 63) (hdf : d.params.defaults = [])
    (hY : ∀ (w : World) (h : Heap), YP w h → (K w.params).In h)
    (F : ∀ (w : World) (mg : Str → Option Value) (fa : Addr) (h : Heap), (K w.params).In h → h.Ns mainGlobals mg → mg d.name = some (.ref fa) →
      ∃ fd : FuncData, (∀ (s : Shared) (u : Value), BindsTo s fd ⟨[u], []⟩ [("_law_script", u)]) ∧ ∀ base : Heap, (K w.params).In base → base.Ns mainGlobals mg → FnOk l.prog w (K w.params) mg base CX0 7 fa fd ["_law_script"] (spS (K w.params) (W prog 7 21))) :
    PySem.W.WalkO q loose XP YP l.row.toRowW d [] (fun f vs => PySem.call f vs) :=
  L2.walk_of (n := 63) (k := 7) (x := "_law_script") (CX := fun _ => CX0) (sp := fun w => spS (K w.params) (W prog 7 21)) hn (by decide) hdf ⟨rfl, by decide, by decide, rfl⟩ hY F (fun _ _ a ns hl hO hS => law_sp (law_main ns hl) hO hS) fun _ _ _ _ _ z => z
end Hue
open PySem PySem.W PyProof.Rows
set_option maxRecDepth 100000 in
set_option maxHeartbeats 0 in
theorem PySem.Challenge.cw_huedties_k68_cuts_holds : PySem.Challenge.rw_huedties_k68_cuts.Holds := by
  w_on; o_law; k_head; (case hw => w_witness2)
  k_fill
  refine Hue.walkL (l := PySem.Challenge.rw_huedties_k68_cuts) rfl rfl (fun w h Y => PySem.W.kIn_of Y) ?F
  case F =>
    intro w mg fa h KX G hmg
    refine' Hue.all_mk KX G hmg ?a0 ?l0 ?c0 ?k0 ?a1 ?l1 ?c1 ?k1 ?a2 ?l2 ?c2 ?k2 ?a3 ?l3 ?c3 ?k3 ?a4 ?l4 ?c4 ?k4 ?a5 ?l5 ?c5 ?k5 ?a6 ?l6 ?c6 ?k6 ?a7 ?l7 ?c7 ?k7 ?a8 ?l8 ?c8 ?k8 ?a9 ?l9 ?c9 ?k9 ?a10 ?l10 ?c10 ?k10 ?a11 ?l11 ?c11 ?k11 ?a12 ?l12 ?c12 ?k12 ?a13 ?l13 ?c13 ?k13 ?a14 ?l14 ?c14 ?k14 ?a15 ?l15 ?c15 ?k15 ?a16 ?l16 ?c16 ?k16 ?a17 ?l17 ?c17 ?k17 ?a18 ?l18 ?c18 ?k18 ?a19 ?l19 ?c19 ?k19 ?a20 ?l20 ?c20 ?k20 ?a21 ?l21 ?c21 ?k21 ?z0 ?z1 ?z2 ?z3 ?z4 ?z5 ?z6 ?z7 ?z8 ?z9 ?z10 ?z11 ?z12 ?z13 ?z14 ?z15 ?z16 ?z17
    (case a0 => k_is)
    (case l0 => k_is)
    (case c0 => k_is)
    (case k0 => k_is)
    (case a1 => k_is)
    (case l1 => k_is)
    (case c1 => k_is)
    (case k1 => k_is)
    (case a2 => k_is)
    (case l2 => k_is)
    (case c2 => k_is)
    (case k2 => k_is)
    (case a3 => k_is)
    (case l3 => k_is)
    (case c3 => k_is)
    (case k3 => k_is)
    (case a4 => k_is)
    (case l4 => k_is)
    (case c4 => k_is)
    (case k4 => k_is)
    (case a5 => k_is)
    (case l5 => k_is)
    (case c5 => k_is)
    (case k5 => k_is)
    (case a6 => k_is)
    (case l6 => k_is)
    (case c6 => k_is)
    (case k6 => k_is)
    (case a7 => k_is)
    (case l7 => k_is)
    (case c7 => k_is)
    (case k7 => k_is)
    (case a8 => k_is)
    (case l8 => k_is)
    (case c8 => k_is)
    (case k8 => k_is)
    (case a9 => k_is)
    (case l9 => k_is)
    (case c9 => k_is)
    (case k9 => k_is)
    (case a10 => k_is)
    (case l10 => k_is)
    (case c10 => k_is)
    (case k10 => k_is)
    (case a11 => k_is)
    (case l11 => k_is)
    (case c11 => k_is)
    (case k11 => k_is)
    (case a12 => k_is)
    (case l12 => k_is)
    (case c12 => k_is)
    (case k12 => k_is)
    (case a13 => k_is)
    (case l13 => k_is)
    (case c13 => k_is)
    (case k13 => k_is)
    (case a14 => k_is)
    (case l14 => k_is)
    (case c14 => k_is)
    (case k14 => k_is)
    (case a15 => k_is)
    (case l15 => k_is)
    (case c15 => k_is)
    (case k15 => k_is)
    (case a16 => k_is)
    (case l16 => k_is)
    (case c16 => k_is)
    (case k16 => k_is)
    (case a17 => k_is)
    (case l17 => k_is)
    (case c17 => k_is)
    (case k17 => k_is)
    (case a18 => k_is)
    (case l18 => k_is)
    (case c18 => k_is)
    (case k18 => k_is)
    (case a19 => k_is)
    (case l19 => k_is)
    (case c19 => k_is)
    (case k19 => k_is)
    (case a20 => k_is)
    (case l20 => k_is)
    (case c20 => k_is)
    (case k20 => k_is)
    (case a21 => k_is)
    (case l21 => k_is)
    (case c21 => k_is)
    (case k21 => k_is)
    (case z0 => k_is)
    (case z1 => k_is)
    (case z2 => k_is)
    (case z3 => k_is)
    (case z4 => k_is)
    (case z5 => k_is)
    (case z6 => k_is)
    (case z7 => k_is)
    (case z8 => k_is)
    (case z9 => k_is)
    (case z10 => k_is)
    (case z11 => k_is)
    (case z12 => k_is)
    (case z13 => k_is)
    (case z14 => k_is)
    (case z15 => k_is)
    (case z16 => k_is)
    (case z17 => k_is)
#print axioms PySem.Challenge.cw_huedties_k68_cuts_holds
