import PyProof.Rows.All
import Wide.All
import OpenK.AllK
import Wide.FinOn
import PyProof.EqAt
import PyProof.EqKinds
import PyProof.TupleCall
import KE.BitLaws
import PySem.PyData
import PyProof.SetScanFacts
import PyProof.Rows.SetFrom
import KE.KDictSum
import PyProof.ReprRoads
import PyProof.ReprLen
import PyProof.P3In
import PyProof.ListRange
import PyProof.Rows.Lemmas
import PyProof.NsDelKeeps
import KE.KNestM
import OpenK.XHead
import KE.KLam
import KE.KIsAll
import PyProof.ExcArgs
import PySem.Challenge.RW_roundsteps_k14_refused_rings
section
-- CHANGE: your row's module here, as the last of these rows
set_option Elab.async false
set_option linter.all false
set_option maxRecDepth 100000
/-! THE HAND LAYER, for ints, bools, texts, own classes, lists, tuples, dicts, comprehensions, walks over dicts, enumerate, zip, reversed, texts, calls, loops. Paste it whole ahead of your own text; what your proof does not reach may be deleted. -/
namespace L2
open PySem PySem.Spec PyProof.Rows
/-- a key: an int or a str -/
abbrev Key := Sum Int Str
def keyIs : Key → Value → Bool
  | .inl k, v => Value.isInt k v
  | .inr x, v => Value.isStrOf x v
def keyH (w : World) : Key → Int
  | .inl k => hashInt k
  | .inr x => hashStr w x
theorem keyIs_shape : ∀ {k : Key} {v : Value}, keyIs k v = true → (∃ i t, k = Sum.inl i ∧ v = Value.int i t) ∨ (∃ x t, k = Sum.inr x ∧ v = Value.str x t)
  | .inl i, v, h => by
    obtain ⟨t, e⟩ := Value.isInt_shape (k := i) (v := v) h
    exact .inl ⟨i, t, rfl, e⟩
  | .inr x, v, h => by
    obtain ⟨t, e⟩ := Value.isStrOf_shape (x := x) (v := v) h
    exact .inr ⟨x, t, rfl, e⟩
theorem key_ll (a b : Int) : decide ((Sum.inl a : Key) = Sum.inl b) = (a == b) := by
  by_cases e : a = b
  · subst e; simp
  · have h : ¬ (Sum.inl a : Key) = Sum.inl b := fun q => e (Sum.inl.inj q)
    rw [decide_eq_false h]
    exact (beq_eq_false_iff_ne.mpr e).symm
theorem key_rr (a b : Str) : decide ((Sum.inr a : Key) = Sum.inr b) = decide (a = b) := by
  by_cases e : a = b
  · subst e; simp
  · have h : ¬ (Sum.inr a : Key) = Sum.inr b := fun q => e (Sum.inr.inj q)
    rw [decide_eq_false h, decide_eq_false e]
theorem key_lr (a : Int) (b : Str) : decide ((Sum.inl a : Key) = Sum.inr b) = false := decide_eq_false (fun q => nomatch q)
theorem key_rl (a : Str) (b : Int) : decide ((Sum.inr a : Key) = Sum.inl b) = false := decide_eq_false (fun q => nomatch q)
def mixKind (prog : Program) (w : World) : PySem.KeyKind prog w Key where
  is := keyIs
  hash := keyH w
  inj := fun v a b ha hb => by
    rcases keyIs_shape ha with ⟨i, t, rfl, rfl⟩ | ⟨x, t, rfl, rfl⟩
    · rcases keyIs_shape hb with ⟨j, u, rfl, e⟩ | ⟨y, u, rfl, e⟩
      · injection e with e1 _; rw [e1]
      · exact nomatch e
    · rcases keyIs_shape hb with ⟨j, u, rfl, e⟩ | ⟨y, u, rfl, e⟩
      · exact nomatch e
      · injection e with e1 _; rw [e1]
  byValue := fun k v h => by
    rcases keyIs_shape h with ⟨i, t, rfl, rfl⟩ | ⟨x, t, rfl, rfl⟩ <;> rfl
  pyHash := fun hv h => by
    rcases keyIs_shape hv with ⟨i, t, rfl, rfl⟩ | ⟨x, t, rfl, rfl⟩
    · exact wpAny_pyHash_int h
    · exact wpAny_pyHash_str h
  eqBool := fun hu hv h => by
    rcases keyIs_shape hu with ⟨i, t, rfl, rfl⟩ | ⟨x, t, rfl, rfl⟩
    · rcases keyIs_shape hv with ⟨j, u, rfl, rfl⟩ | ⟨y, u, rfl, rfl⟩
      · rw [key_ll] at h; exact wpAny_eqBool_int h
      · rw [key_lr] at h; exact SeqAt.EqAt.int_str i t y u _ _ _ _ h
    · rcases keyIs_shape hv with ⟨j, u, rfl, rfl⟩ | ⟨y, u, rfl, rfl⟩
      · rw [key_rl] at h; exact SeqAt.EqAt.str_int x t j u _ _ _ _ h
      · rw [key_rr] at h; exact wpAny_eqBool_str h
  «strs» := fun k x t v h => by
    rcases keyIs_shape h with ⟨i, u, rfl, e⟩ | ⟨y, u, rfl, e⟩
    · exact nomatch e
    · injection e with e1 _
      subst e1
      cases v <;> rfl
end L2
namespace L2
open PySem PySem.Spec PyProof.Rows
/-- a value, without the heap -/
inductive V where
  | non | bl (b : Bool) | int (i : Int) | str (x : Str) | byt (b : Array UInt8) | flt (b : UInt64) | ref (a : Addr) | ty (n : String)
  deriving DecidableEq
def RelV : V → Value → Prop
  | .non, u => u = Value.none
  | .bl b, u => u = Value.bool b
  | .int i, u => ∃ t, u = Value.int i t
  | .str x, u => ∃ t, u = Value.str x t
  | .byt b, u => ∃ t, u = Value.bytes b t
  | .flt b, u => ∃ t, u = Value.float b t
  | .ref a, u => u = Value.ref a
  | .ty n, u => u = Value.type n
abbrev Vals : List V → List Value → Prop := Paired RelV
theorem Vals.length {xs : List V} {us : List Value} (r : Vals xs us) : xs.length = us.length := Paired.length r
theorem Vals.get : ∀ {xs : List V} {us : List Value} {i : Nat} {x : V}, Vals xs us → xs[i]? = some x → ∃ u, us[i]? = some u ∧ RelV x u
  | _, _, _, _, .nil, e => by simp at e
  | _, _, 0, _, .cons r _, e => by simp at e; subst e; exact ⟨_, rfl, r⟩
  | _, _, i + 1, x, .cons _ t, e => by
    obtain ⟨u, h1, h2⟩ := Vals.get (i := i) (x := x) t (by simpa using e)
    exact ⟨u, by simpa using h1, h2⟩
theorem Vals.set {x : V} {u : Value} (r : RelV x u) : ∀ {xs : List V} {us : List Value} (i : Nat), Vals xs us → Vals (xs.set i x) (us.set i u)
  | _, _, _, .nil => .nil
  | _, _, 0, .cons _ t => .cons r t
  | _, _, i + 1, .cons q t => .cons q (Vals.set r i t)
theorem Vals.append : ∀ {xs ys : List V} {us ws : List Value}, Vals xs us → Vals ys ws → Vals (xs ++ ys) (us ++ ws)
  | _, _, _, _, .nil, s => s
  | _, _, _, _, .cons r t, s => .cons r (Vals.append t s)
theorem Vals.take : ∀ {xs : List V} {us : List Value} (n : Nat), Vals xs us → Vals (xs.take n) (us.take n)
  | _, _, 0, _ => .nil
  | _, _, _ + 1, .nil => .nil
  | _, _, n + 1, .cons r t => .cons r (Vals.take n t)
theorem Vals.drop : ∀ {xs : List V} {us : List Value} (n : Nat), Vals xs us → Vals (xs.drop n) (us.drop n)
  | _, _, 0, r => r
  | _, _, _ + 1, .nil => .nil
  | _, _, n + 1, .cons _ t => Vals.drop n t
theorem Vals.none_of : ∀ {xs : List V} {us : List Value} {i : Nat}, Vals xs us → xs[i]? = none → us[i]? = none := fun {xs us i} r e => by
  have h1 := r.length
  have h2 : xs.length ≤ i := List.getElem?_eq_none_iff.mp e
  exact List.getElem?_eq_none_iff.mpr (by omega)
def RelO : Option V → Option Value → Prop
  | some v, some u => RelV v u
  | none, none => True
  | _, _ => False
def KV {κ : Type} : List (κ × V) → List (κ × Value) → Prop := Paired fun (p : κ × V) (q : κ × Value) => p.1 = q.1 ∧ RelV p.2 q.2
/-- a key of a dict (00_mix): an int or a text -/
def kV : Key → V
  | .inl i => .int i
  | .inr x => .str x
/-- what stands at a tracked address -/
inductive HO where
  /-- a list -/
  | lst (xs : List V)
  /-- a tuple (never changes) -/
  | tup (xs : List V)
  /-- a dict whose keys are ints and texts; one whose keys are tuples of ints and texts (the empty one is both) -/
  | dK (kvs : List (Key × V)) | dT (kvs : List (List Key × V))
  /-- a set of ints: its members, its size -/
  | set (S : Int → Bool) (n : Nat)
  /-- an instance of the class at C, its dict at dx, its attributes -/
  | ins (C dx : Addr) (fs : List (Str × V))
  /-- the dict of the instance at x -/
  | own (x : Addr)
  /-- the dict of an exception -/
  | xd (fs : List (Str × V))
  /-- a bound method, f of x -/
  | met (f x : Addr)
  /-- a range object lo, lo + 1, .. below hi -/
  | rng (lo hi : Int)
  /-- a thing that is known to the object (the script; a dict while a loop walks it): read, never written while it is so -/
  | frz (o : Obj) (u : HO)
  /-- a code object's table -/
  | tb (g : Option Str) (ps : Array Value)
  /-- any other thing, by what is true of its one object (a def of one's own: SetO a S n := HO.ext fun h => ..) -/
  | ext (φ : Heap → Prop)
abbrev HO.tbl (ps : Array Value) : HO := .tb Option.none ps
abbrev Hp := Addr → Option HO
def upd (H : Hp) (a : Addr) (o : HO) : Hp := fun b => if b = a then some o else H b
theorem upd_same {H : Hp} {a : Addr} {o : HO} : upd H a o a = some o := by unfold upd; rw [if_pos rfl]
theorem upd_ne {H : Hp} {a b : Addr} {o : HO} (h : b ≠ a) : upd H a o b = H b := by unfold upd; rw [if_neg h]
/-- two objects of different content stand apart -/
theorem ne_of {H : Hp} {a b : Addr} {o u : HO} (h : H a = some o) (h' : H b = some u) (d : o ≠ u) : a ≠ b := by
  intro e; subst e; rw [h] at h'; exact d (Option.some.inj h')
theorem ne_of_none {H : Hp} {a b : Addr} {o : HO} (h : H a = some o) (h' : H b = none) : a ≠ b := by
  intro e; subst e; rw [h] at h'; cases h'
section
variable (P : Program) (w : World)
def ObjOk (H : Hp) (h : Heap) (a : Addr) : HO → Prop
  | .lst xs => xs.length ≤ sizeLine ∧ ∃ (its : List Value) (n : Nat), Vals xs its ∧ h.get? a = some { cls := .type "list", data := .seq its.toArray n }
  | .tup xs => xs.length ≤ sizeLine ∧ ∃ its : List Value, Vals xs its ∧ IsTup h a its.toArray
  | .dK kvs => kvs.length ≤ sizeLine ∧ (a == sysModules) = false ∧ ∃ vs, KV kvs vs ∧ h.DictOf (mixKind P w) a vs
  | .dT kvs => kvs.length ≤ sizeLine ∧ (a == sysModules) = false ∧ ∃ xs : List (List Key × Addr × Value),
      Paired (fun (p : List Key × V) (q : List Key × Addr × Value) => p.1 = q.1 ∧ H q.2.1 = some (.tup (p.1.map kV)) ∧ RelV p.2 q.2.2) kvs xs ∧
      ∃ o es ep, h.get? a = some o ∧ o.ExactDict ∧ o.data = .dict es ep ∧ es.toList = xs.map (entryOfKey (tupleKind (mixKind P w))) ∧ (xs.map (·.1)).Nodup
  | .set S n => h.SetOf (intKind P w) a S n
  | .ins C dx fs => H dx = some (.own a) ∧ fs.length ≤ 1000 ∧ dx ≠ a ∧ h.get? a = some (PySem.W.instObj C dx) ∧
      ∃ mA, h.Ns1 dx mA ∧ (∀ f, RelO (fs.lookup f) (mA f)) ∧ PySem.Within mA (fs.map (·.1))
  | .own _ => ∃ o, h.get? a = some o
  | .xd fs => ∃ mA, h.Ns1 a mA ∧ ∀ f, RelO (fs.lookup f) (mA f)
  | .rng lo hi => ∃ t u v, h.get? a = some { cls := .type "range", data := .fields #[.int lo t, .int hi u, .int 1 v] }
  | .frz o u => h.get? a = some o ∧ ObjOk H h a u
  | .tb _ ps => h.get? a = some { cls := .none, data := .fields ps }
  | .met f x => h.get? a = some (PySem.W.methodObj (.ref f) (.ref x))
  | .ext φ => φ h ∧ (∃ o, h.get? a = some o) ∧ ∀ h1 h2 : Heap, φ h1 → (∀ o, h1.get? a = some o → h2.get? a = some o) → φ h2
/-- the abstract heap is held -/
def HOk (H : Hp) (h : Heap) : Prop := ∀ a o, H a = some o → ObjOk P w H h a o
end
section
variable {P : Program} {w : World} {H H' : Hp} {h h' : Heap} {a : Addr} {o : HO}
theorem ObjOk.lt (x : ObjOk P w H h a o) : a < h.objs.size := by
  cases o with
  | lst xs => obtain ⟨_, _, _, _, e⟩ := x; exact Heap.lt_size e
  | tup xs => obtain ⟨_, _, _, p⟩ := x; exact p.lt
  | dK kvs => obtain ⟨_, _, _, _, o, _, _, e, _⟩ := x; exact Heap.lt_size e
  | dT kvs => obtain ⟨_, _, _, _, o, _, _, e, _⟩ := x; exact Heap.lt_size e
  | set S n => obtain ⟨o, _, _, _, e, _⟩ := x; exact Heap.lt_size e
  | ins C dx fs => obtain ⟨_, _, _, e, _⟩ := x; exact Heap.lt_size e
  | own y => obtain ⟨_, e⟩ := x; exact Heap.lt_size e
  | xd fs => obtain ⟨_, ⟨_, _, _, e, _⟩, _⟩ := x; exact Heap.lt_size e
  | rng lo hi => obtain ⟨_, _, _, e⟩ := x; exact Heap.lt_size e
  | frz ob u => obtain ⟨e, _⟩ := x; exact Heap.lt_size e
  | tb g ps => exact Heap.lt_size (show h.get? a = some _ from x)
  | met f y => exact Heap.lt_size (show h.get? a = some _ from x)
  | ext φ => obtain ⟨_, ⟨_, e⟩, _⟩ := x; exact Heap.lt_size e
theorem Paired.mapP {α β : Type} {F G : α → β → Prop} : ∀ {l₁ : List α} {l₂ : List β}, Paired F l₁ l₂ → (∀ a b, F a b → G a b) → Paired G l₁ l₂
  | _, _, .nil, _ => .nil
  | _, _, .cons r t, f => .cons (f _ _ r) (Paired.mapP t f)
/-- what an object's description leans on: its own object, its own dict, the tuples -/
theorem ObjOk.stay (x : ObjOk P w H h a o) (k : ∀ b u, (b = a ∨ H b = some (.own a)) → h.get? b = some u → h'.get? b = some u)
    (ho : ∀ b, H b = some (.own a) → H' b = some (.own a)) (ht : ∀ b xs, H b = some (.tup xs) → H' b = some (.tup xs)) : ObjOk P w H' h' a o := by
  induction o with
  | lst xs => obtain ⟨z, its, n, r, e⟩ := x; exact ⟨z, its, n, r, k _ _ (.inl rfl) e⟩
  | tup xs => obtain ⟨z, its, r, ob, e, c⟩ := x; exact ⟨z, its, r, ob, k _ _ (.inl rfl) e, c⟩
  | dK kvs => obtain ⟨z, y, vs, r, ob, es, ep, e, c⟩ := x; exact ⟨z, y, vs, r, ob, es, ep, k _ _ (.inl rfl) e, c⟩
  | dT kvs =>
    obtain ⟨z, y, xs, r, ob, es, ep, e, c⟩ := x
    exact ⟨z, y, xs, Paired.mapP r fun p q z => ⟨z.1, ht _ _ z.2.1, z.2.2⟩, ob, es, ep, k _ _ (.inl rfl) e, c⟩
  | set S n => obtain ⟨ob, es, ep, t, e, c⟩ := x; exact ⟨ob, es, ep, t, k _ _ (.inl rfl) e, c⟩
  | ins C dx fs =>
    obtain ⟨d, z, ne, e, mA, ⟨od, es, ep, e2, c⟩, r⟩ := x
    exact ⟨ho _ d, z, ne, k _ _ (.inl rfl) e, mA, ⟨od, es, ep, k _ _ (.inr d) e2, c⟩, r⟩
  | own y => obtain ⟨ob, e⟩ := x; exact ⟨ob, k _ _ (.inl rfl) e⟩
  | xd fs => obtain ⟨mA, ⟨od, es, ep, e, c⟩, r⟩ := x; exact ⟨mA, ⟨od, es, ep, k _ _ (.inl rfl) e, c⟩, r⟩
  | rng lo hi => obtain ⟨t, u, v, e⟩ := x; exact ⟨t, u, v, k _ _ (.inl rfl) e⟩
  | frz ob u ih => obtain ⟨e, q⟩ := x; exact ⟨k _ _ (.inl rfl) e, ih q⟩
  | tb g ps =>
    have e : h.get? a = some { cls := .none, data := .fields ps } := x
    show h'.get? a = some { cls := .none, data := .fields ps }
    exact k a _ (.inl rfl) e
  | met f y =>
    have e : h.get? a = some (PySem.W.methodObj (.ref f) (.ref y)) := x
    show h'.get? a = some (PySem.W.methodObj (.ref f) (.ref y))
    exact k a _ (.inl rfl) e
  | ext φ => obtain ⟨p, ⟨o, e⟩, st⟩ := x; exact ⟨st _ _ p fun o q => k _ _ (.inl rfl) q, ⟨o, k _ _ (.inl rfl) e⟩, st⟩
theorem HOk.lt (x : HOk P w H h) (e : H a = some o) : a < h.objs.size := (x a o e).lt
theorem HOk.fresh (x : HOk P w H h) (e : h.objs.size ≤ a) : H a = none := by
  cases q : H a with
  | none => rfl
  | some u => exact absurd (Nat.lt_of_lt_of_le (x.lt q) e) (Nat.lt_irrefl _)
/-- every object of the heap is kept -/
theorem HOk.kept (x : HOk P w H h) (k : ∀ b u, h.get? b = some u → h'.get? b = some u) : HOk P w H h' := fun a o e =>
  (x a o e).stay (fun b u _ q => k b u q) (fun _ q => q) fun _ _ q => q
/-- a new object is laid and tracked -/
theorem HOk.laid (x : HOk P w H h) (k : ∀ b u, h.get? b = some u → h'.get? b = some u) (hp : h.objs.size ≤ a) (new : ObjOk P w (upd H a o) h' a o) : HOk P w (upd H a o) h' := fun b u e => by
  have hn := x.fresh hp
  by_cases hb : b = a
  · subst hb; rw [upd_same] at e; cases e; exact new
  · rw [upd_ne hb] at e
    exact (x b u e).stay (fun c v _ q => k c v q) (fun c q => by rw [upd_ne (ne_of_none q hn)]; exact q) fun c xs q => by rw [upd_ne (ne_of_none q hn)]; exact q
end
/-- what may be read as u: it is u, or a known u -/
def Rd (H : Hp) (a : Addr) (u : HO) : Prop := H a = some u ∨ ∃ o, H a = some (.frz o u)
theorem Rd.of {H : Hp} {a : Addr} {u : HO} (h : H a = some u) : Rd H a u := .inl h
theorem Rd.ok {P : Program} {w : World} {H : Hp} {h : Heap} {a : Addr} {u : HO} (r : Rd H a u) (x : HOk P w H h) : ObjOk P w H h a u := by
  rcases r with r | ⟨o, r⟩
  · exact x a u r
  · obtain ⟨_, q⟩ := x a _ r
    exact q
/-- what may be written -/
def Mut : Option HO → Prop
  | some (.lst _) => True
  | some (.dK _) => True
  | some (.dT _) => True
  | some (.set _ _) => True
  | some (.ins _ _ _) => True
  | some (.ext _) => True
  | _ => False
section
variable {P : Program} {w : World} {H : Hp} {h h' : Heap} {x e : Addr} {o' : HO}
/-- the object at e is changed: x itself, or the dict of the instance x -/
theorem HOk.write (ok : HOk P w H h) (mu : Mut (H x)) (he : e = x ∨ H e = some (.own x)) (k : ∀ b u, b ≠ e → h.get? b = some u → h'.get? b = some u) (heo : ∃ u, h'.get? e = some u)
    (new : ObjOk P w (upd H x o') h' x o') : HOk P w (upd H x o') h' := fun b u q => by
  have nown : ∀ c y, H c = some (.own y) → c ≠ x := fun c y r z => by subst z; rw [r] at mu; exact mu
  have ntup : ∀ c xs, H c = some (.tup xs) → c ≠ x := fun c xs r z => by subst z; rw [r] at mu; exact mu
  by_cases hb : b = x
  · subst hb; rw [upd_same] at q; cases q; exact new
  · rw [upd_ne hb] at q
    by_cases hbe : b = e
    · have q' : H b = some (.own x) := by
        rcases he with z | z
        · exact absurd (hbe.trans z) hb
        · rw [hbe]; exact z
      rw [q] at q'; cases q'
      obtain ⟨v, hv⟩ := heo
      exact ⟨v, by rw [hbe]; exact hv⟩
    · refine (ok b u q).stay (fun c v hc r => k c v ?_ r) (fun c r => by rw [upd_ne (nown c b r)]; exact r) fun c xs r => by rw [upd_ne (ntup c xs r)]; exact r
      rcases hc with rfl | hc
      · exact hbe
      · rintro rfl
        rcases he with z | z
        · exact nown c b hc z
        · rw [hc] at z; cases z; exact hb rfl
end
/-! ### kept unless tracked; of the frames at fs (the callers') the slots may change (an exception that passes writes there); of the records at ex (iterators) nothing is said -/
structure Un (fs ex : List Addr) (H H' : Hp) (h h' : Heap) : Prop where
  keep : ∀ b o, h.get? b = some o → H b = none → b ∉ fs → b ∉ ex → h'.get? b = some o
  slot : ∀ b o, h.get? b = some o → H b = none → b ∈ fs → b ∉ ex → ∃ sl, h'.get? b = some { o with slots := sl }
  free : ∀ b o, h.get? b = some o → H b = none → b ∉ ex → H' b = none
  there : ∀ b o, h.get? b = some o → b ∉ ex → ∃ o', h'.get? b = some o'
  tups : ∀ b xs, H b = some (.tup xs) → H' b = some (.tup xs)
  frzs : ∀ b o u, H b = some (.frz o u) → H' b = some (.frz o u)
  tbls : ∀ b g ps, H b = some (.tb g ps) → ∃ more, H' b = some (.tb g (ps ++ more))
section
variable {fs fs' ex ex' : List Addr} {H H1 H2 : Hp} {h h1 h2 h' : Heap} {a x e : Addr} {o : HO}
theorem Un.any (u : Un fs ex H H1 h h1) {b : Addr} {ob : Obj} (q : h.get? b = some ob) (n : H b = none) (hx : b ∉ ex) : ∃ sl, h1.get? b = some { ob with slots := sl } := by
  by_cases hb : b ∈ fs
  · exact u.slot b ob q n hb hx
  · exact ⟨ob.slots, u.keep b ob q n hb hx⟩
theorem Un.trans (a : Un fs ex H H1 h h1) (b : Un fs ex H1 H2 h1 h2) : Un fs ex H H2 h h2 where
  keep := fun c ob q n hc hx => b.keep c ob (a.keep c ob q n hc hx) (a.free c ob q n hx) hc hx
  slot := fun c ob q n hc hx => by
    obtain ⟨sl, e1⟩ := a.slot c ob q n hc hx
    obtain ⟨sl', e2⟩ := b.slot c _ e1 (a.free c ob q n hx) hc hx
    exact ⟨sl', e2⟩
  free := fun c ob q n hx => by
    obtain ⟨o', e1⟩ := a.there c ob q hx
    exact b.free c o' e1 (a.free c ob q n hx) hx
  there := fun c ob q hx => by
    obtain ⟨o', e1⟩ := a.there c ob q hx
    exact b.there c o' e1 hx
  tups := fun c xs q => b.tups c xs (a.tups c xs q)
  frzs := fun c ob xs q => b.frzs c ob xs (a.frzs c ob xs q)
  tbls := fun c g ps q => by
    obtain ⟨m1, e1⟩ := a.tbls c g ps q
    obtain ⟨m2, e2⟩ := b.tbls c g _ e1
    exact ⟨m1 ++ m2, by rw [e2, Array.append_assoc]⟩
theorem Un.kept (k : ∀ b u, h.get? b = some u → h'.get? b = some u) : Un fs ex H H h h' :=
  ⟨fun b ob q _ _ _ => k b ob q, fun b ob q _ _ _ => ⟨ob.slots, k b ob q⟩, fun _ _ _ n _ => n, fun b ob q _ => ⟨ob, k b ob q⟩, fun _ _ q => q, fun _ _ _ q => q, fun _ _ ps q => ⟨#[], by rw [q]; simp⟩⟩
theorem Un.refl : Un fs ex H H h h := Un.kept fun _ _ q => q
theorem Un.laid (k : ∀ b u, h.get? b = some u → h'.get? b = some u) (hp : h.objs.size ≤ a) (hn : H a = none) : Un fs ex H (upd H a o) h h' where
  keep := fun b u q _ _ _ => k b u q
  slot := fun b u q _ _ _ => ⟨u.slots, k b u q⟩
  free := fun b u q n _ => by rw [upd_ne (Nat.ne_of_lt (Nat.lt_of_lt_of_le (Heap.lt_size q) hp))]; exact n
  there := fun b u q _ => ⟨u, k b u q⟩
  tups := fun b xs q => by rw [upd_ne (ne_of_none q hn)]; exact q
  frzs := fun b u xs q => by rw [upd_ne (ne_of_none q hn)]; exact q
  tbls := fun b g ps q => ⟨#[], by rw [upd_ne (ne_of_none q hn), q]; simp⟩
theorem Un.write (mu : Mut (H x)) (he : e = x ∨ H e = some (.own x)) (k : ∀ b u, b ≠ e → h.get? b = some u → h'.get? b = some u) (heo : ∃ u, h'.get? e = some u) : Un fs ex H (upd H x o) h h' := by
  have hx : ∀ b, H b = none → b ≠ x := fun b n z => by subst z; rw [n] at mu; exact mu
  have hb : ∀ b, H b = none → b ≠ e := fun b n z => by
    subst z
    rcases he with r | r
    · exact hx b n r
    · rw [n] at r; cases r
  have hm : ∀ b u, H b = some u → ¬ Mut (some u) → b ≠ x := fun b u q nm z => by subst z; rw [q] at mu; exact nm mu
  refine ⟨fun b u q n _ _ => k b u (hb b n) q, fun b u q n _ _ => ⟨u.slots, k b u (hb b n) q⟩, fun b u q n _ => by rw [upd_ne (hx b n)]; exact n, fun b u q _ => ?_,
    fun b xs q => by rw [upd_ne (hm b _ q fun z => z)]; exact q, fun b u xs q => by rw [upd_ne (hm b _ q fun z => z)]; exact q, fun b _ ps q => ⟨#[], by rw [upd_ne (hm b _ q fun z => z), q]; simp⟩⟩
  by_cases hbe : b = e
  · subst hbe; exact heo
  · exact ⟨u, k b u hbe q⟩
theorem Un.mono (u : Un fs ex H H1 h h1) (hs : ∀ b ∈ fs, b ∈ fs') (hx : ∀ b ∈ ex, b ∈ ex') : Un fs' ex' H H1 h h1 :=
  ⟨fun b ob q n hb he => u.keep b ob q n (fun z => hb (hs b z)) fun z => he (hx b z), fun _ _ q n _ he => u.any q n fun z => he (hx _ z), fun b ob q n he => u.free b ob q n fun z => he (hx b z), fun b ob q he => u.there b ob q fun z => he (hx b z), u.tups, u.frzs, u.tbls⟩
end
/-! ### the heap without what is tracked -/
def trk (h : Heap) (H : Hp) : List Addr := (List.range h.objs.size).filter fun a => (H a).isSome
def hidT (h : Heap) (H : Hp) : Heap := PySem.W.hideAll h (trk h H)
theorem hidT_size (h : Heap) (H : Hp) : (hidT h H).objs.size = h.objs.size := PySem.W.hideAll_size _ _
theorem hidT_get {h : Heap} {H : Hp} {b : Addr} {o : Obj} (e : h.get? b = some o) (n : H b = none) : (hidT h H).get? b = some o :=
  PySem.W.hideAll_get _ e fun hm => by
    have q : (H b).isSome = true := (List.mem_filter.mp hm).2
    rw [n] at q; simp at q
theorem of_hidT {h : Heap} {H : Hp} {b : Addr} {o : Obj} (e : (hidT h H).get? b = some o) : h.get? b = some o ∧ H b = none := by
  have e' : h.get? b = some o := PySem.W.of_hideAll (trk h H) e
  refine ⟨e', ?_⟩
  cases q : H b with
  | none => rfl
  | some x =>
    have hm : b ∈ trk h H := List.mem_filter.mpr ⟨List.mem_range.mpr (Heap.lt_size e'), by simp [q]⟩
    have z : (hidT h H).get? b = none := PySem.W.hideAll_none (trk h H) hm
    rw [z] at e; cases e
/-! ### OpenK's ledger, filled with every new object but one -/
def allNews (g h : Heap) (L : Addr) : List (Addr × Obj) := (List.range h.objs.size).filterMap fun a => if a = L ∨ (g.get? a).isSome = true then none else (h.get? a).map fun o => (a, o)
def rest (g h : Heap) (L d : Addr) : List (Addr × Obj) := (allNews g h L).filter fun p => decide (p.1 ≠ d)
end L2
namespace L2
open PySem PySem.Spec PyProof.Rows
/-- the module's facts, over the base: the heap at the law's entry without what is tracked there -/
structure Mod (K : PySem.W.Frag) (mg : Str → Option Value) (base : Heap) : Prop where
  kin : K.In base
  glob : base.Ns mainGlobals mg
  blt : ∃ mb, base.Ns builtinsNs mb ∧ ∀ x : Str, x ≠ "__name__" → mb x = bootBuiltins x
  nolimit : base.NoLimit
/-- the context: a def's body (or a comprehension's block) running. base: fixed through the whole law; s₀, H₀: the entry; outer: the frames whose slots others may change (a def's callers); stack: all frames that run;
   ex: iterators that were made ahead of the entry and are walked here (a comprehension's); fn: the names whose cells were made at the entry (a def: all; a comprehension's block: its own); calm: not within an except suite; pn: pins that every state bears; xe: what is wanted of an exception that leaves the code -/
structure Cx where
  prog : Program
  w : World
  K : PySem.W.Frag
  mg : Str → Option Value
  base : Heap
  A : Around
  N : List Str
  s_0 : Shared
  H_0 : Hp
  env : Env
  outer : List Env
  stack : List Env
  ex : List Addr
  fn : Str → Bool
  calm : Bool
  pn : List (Addr × Obj)
  xe : Value → Shared → Prop
/-- the callers' frames -/
def frs (l : List Env) : List Addr := l.filterMap (·.frame)
abbrev Cx.fs (X : Cx) : List Addr := frs X.outer
def Vis (sc : Scope) (x : Str) : Prop := sc.names.lookup x = some .local ∨ sc.names.lookup x = some .cell ∨ sc.names.lookup x = some .free
def Loc (sc : Scope) (x : Str) : Prop := sc.names.lookup x = some .local ∨ sc.names.lookup x = some .cell
def Look (env : Env) (h : Heap) (m : Str → Option Value) (x : Str) (u : Value) : Prop :=
  (env.kindOf x = some .local ∧ m x = some u) ∨ ((env.kindOf x = some .cell ∨ env.kindOf x = some .free) ∧ ∃ c, env.cells.lookup x = some c ∧ h.IsCell c (some u))
structure Cx.Ok (X : Cx) : Prop where
  mod : Mod X.K X.mg X.base
  kind : X.env.scope.kind = .function
  glob : X.env.globals = mainGlobals
  blt : X.env.builtins = builtinsNs
  above : X.s_0.heap.objs.size ≤ X.env.locals
  inj : ∀ x y c, X.env.cells.lookup x = some c → X.env.cells.lookup y = some c → x = y
  has : ∀ x, (X.env.kindOf x = some .cell ∨ X.env.kindOf x = some .free) → ∃ c, X.env.cells.lookup x = some c
  cab : ∀ x c, X.fn x = true → X.env.cells.lookup x = some c → X.s_0.heap.objs.size ≤ c
  hd : X.calm = true → X.A.handled = none
  frames : X.A.frames = some X.stack
  stk : X.stack = X.outer ∨ (X.stack = X.env :: X.outer ∧ X.env.frame = some X.env.locals)
  exf : ∀ b ∈ X.ex, b ≠ X.env.locals ∧ ∀ x c, X.env.cells.lookup x = some c → c ≠ b
  bs : ∀ b o, X.base.get? b = some o → X.s_0.heap.get? b = some o ∧ X.H_0 b = none
  bsz : X.base.objs.size ≤ X.s_0.heap.objs.size
  noex : ∀ b o, X.base.get? b = some o → b ∉ X.ex
  exfs : ∀ b ∈ X.ex, b ∉ X.fs
  funs : X.s_0.heap.FunFrames X.base X.outer
  frf : ∀ b ∈ X.fs, X.H_0 b = none
structure Inv (X : Cx) (pins : List (Addr × Obj)) (σ : List (Option V)) (H : Hp) (s : Shared) : Prop where
  ok : X.Ok
  os : s.os = X.s_0.os
  bare : AllBare s.gens
  base : Un X.fs X.ex X.H_0 H X.s_0.heap s.heap
  loc : ∃ m, s.heap.Ns X.env.locals m ∧ ∀ (i : Nat) (x : Str) (v : V), X.N[i]? = some x → σ[i]? = some (some v) → Vis X.env.scope x → ∃ u, RelV v u ∧ Look X.env s.heap m x u
  cell : ∀ x c, X.env.cells.lookup x = some c → ∃ v, s.heap.IsCell c v
  free : H X.env.locals = none
  freeC : ∀ x c, X.env.cells.lookup x = some c → H c = none
  pin : ∀ p ∈ X.pn ++ pins, s.heap.get? p.1 = some p.2 ∧ H p.1 = none ∧ p.1 ≠ X.env.locals ∧ p.1 ∉ X.fs ∧ ∀ v, p.2.data ≠ .cell v
  hok : HOk X.prog X.w H s.heap
  len : σ.length = X.N.length
section
variable {X : Cx} {pins : List (Addr × Obj)} {σ : List (Option V)} {H H' : Hp} {s : Shared} {h' : Heap}
theorem Cx.Ok.nofr (ok : X.Ok) {b : Addr} {o : Obj} (e : X.base.get? b = some o) : b ∉ X.fs := fun hb => by
  have := (ok.funs.mem hb).1
  rw [e] at this; cases this
theorem Inv.bs (I : Inv X pins σ H s) : ∀ b o, X.base.get? b = some o → s.heap.get? b = some o ∧ H b = none := fun b o e =>
  ⟨I.base.keep b o (I.ok.bs b o e).1 (I.ok.bs b o e).2 (I.ok.nofr e) (I.ok.noex b o e), I.base.free b o (I.ok.bs b o e).1 (I.ok.bs b o e).2 (I.ok.noex b o e)⟩
theorem Inv.bk (I : Inv X pins σ H s) : ∀ b o, X.base.get? b = some o → s.heap.get? b = some o := fun b o e => (I.bs b o e).1
theorem Inv.mod (I : Inv X pins σ H s) : Mod X.K X.mg X.base := I.ok.mod
theorem Inv.kIn (I : Inv X pins σ H s) : X.K.In s.heap := I.ok.mod.kin.keeps I.bk
theorem Inv.nolimit (I : Inv X pins σ H s) : s.heap.NoLimit := I.ok.mod.nolimit.keeps I.bk
/-- the frame over the base: for OpenK's rules (K.In X.base is I.mod.kin) -/
theorem Inv.fr (I : Inv X pins σ H s) : ∃ m, Fr X.base X.env.locals s.heap m :=
  let ⟨m, hn, _⟩ := I.loc
  ⟨m, hn, I.bk, Nat.le_trans I.ok.bsz I.ok.above⟩
theorem Inv.lt (I : Inv X pins σ H s) : X.env.locals < s.heap.objs.size := let ⟨_, hn, _⟩ := I.loc; hn.lt
theorem Inv.sz (I : Inv X pins σ H s) : X.s_0.heap.objs.size ≤ s.heap.objs.size := Nat.le_trans I.ok.above (Nat.le_of_lt I.lt)
theorem Inv.nofs (I : Inv X pins σ H s) {a : Addr} (h : s.heap.objs.size ≤ a) : a ∉ X.fs := fun hb => by
  obtain ⟨_, o, ho, _⟩ := I.ok.funs.mem hb
  exact absurd (Nat.lt_of_lt_of_le (Heap.lt_size ho) (Nat.le_trans I.sz h)) (Nat.lt_irrefl _)
theorem Inv.cne (I : Inv X pins σ H s) : ∀ x c, X.env.cells.lookup x = some c → c ≠ X.env.locals := fun x c e z => by
  obtain ⟨v, o, ho, hd⟩ := I.cell x c e
  obtain ⟨m, ⟨o', es, ep, ho', hd', _⟩, _⟩ := I.loc
  rw [z, ho'] at ho; cases ho; rw [hd'] at hd; cases hd
theorem Inv.funs (I : Inv X pins σ H s) : s.heap.FunFrames X.base X.outer := by
  have all : ∀ (l : List Env), (∀ b ∈ frs l, b ∈ X.fs) → X.s_0.heap.FunFrames X.base l → s.heap.FunFrames X.base l := by
    intro l
    induction l with
    | nil => intro _ _; trivial
    | cons env r ih =>
      intro hs hl
      obtain ⟨hk, ⟨L, o, hf, hn, ho, hd⟩, hr⟩ := hl
      have hL : L ∈ X.fs := hs L (by unfold frs; rw [List.filterMap_cons, hf]; exact List.mem_cons_self)
      obtain ⟨sl, e⟩ := I.base.slot L o ho (I.ok.frf L hL) hL fun z => I.ok.exfs L z hL
      exact ⟨hk, ⟨L, _, hf, hn, e, hd⟩, ih (fun b hb => hs b (by unfold frs; rw [List.filterMap_cons, hf]; exact List.mem_cons_of_mem _ hb)) hr⟩
  exact all X.outer (fun _ hb => hb) I.ok.funs
/-- the frames that run, for a call -/
theorem Inv.stack (I : Inv X pins σ H s) : s.heap.FunFrames X.base X.stack := by
  rcases I.ok.stk with e | ⟨e, hf⟩
  · rw [e]; exact I.funs
  · rw [e]
    obtain ⟨m, hn, _⟩ := I.loc
    refine .cons (by rw [I.ok.kind]; decide) hf hn ?_ I.funs
    exact Heap.get?_none_of_le (Nat.le_trans I.ok.bsz I.ok.above)
theorem Inv.stkSub (I : Inv X pins σ H s) : ∀ b ∈ frs X.stack, b ∈ X.env.locals :: X.fs := fun b hb => by
  rcases I.ok.stk with e | ⟨e, hf⟩
  · rw [e] at hb; exact List.mem_cons_of_mem _ hb
  · rw [e] at hb
    unfold frs at hb
    rw [List.filterMap_cons, hf] at hb
    exact hb
theorem Inv.stkFree (I : Inv X pins σ H s) : ∀ b ∈ frs X.stack, H b = none := fun b hb => by
  rcases List.mem_cons.mp (I.stkSub b hb) with e | hb
  · rw [e]; exact I.free
  · obtain ⟨_, o, ho, _⟩ := I.ok.funs.mem hb
    exact I.base.free b o ho (I.ok.frf b hb) fun z => I.ok.exfs b z hb
/-- THE STEP: the untracked objects but the frame and the records at ch are kept (the callers' frames up to slots), the frame's map is kept, the new abstract heap is held -/
theorem Inv.step {g' : Array GenState} {t' : Nat} {d' : Drawn} {ch : List Addr} (I : Inv X pins σ H s)
    (hch : ∀ b ∈ ch, (b ∈ X.ex ∨ X.s_0.heap.objs.size ≤ b) ∧ b ≠ X.env.locals ∧ (∀ x c, X.env.cells.lookup x = some c → c ≠ b) ∧ ∀ p ∈ X.pn ++ pins, p.1 ≠ b)
    (keep : ∀ b o, b ≠ X.env.locals → b ∉ X.fs → b ∉ ch → s.heap.get? b = some o → H b = none → h'.get? b = some o)
    (slot : ∀ b o, b ≠ X.env.locals → b ∈ X.fs → b ∉ ch → s.heap.get? b = some o → H b = none → ∃ sl, h'.get? b = some { o with slots := sl }) (free : ∀ b o, b ∉ ch → s.heap.get? b = some o → H b = none → H' b = none)
    (there : ∀ b o, b ∉ ch → s.heap.get? b = some o → ∃ o', h'.get? b = some o')
    (tups : ∀ b xs, H b = some (.tup xs) → H' b = some (.tup xs)) (frzs : ∀ b o u, H b = some (.frz o u) → H' b = some (.frz o u)) (tbls : ∀ b g ps, H b = some (.tb g ps) → ∃ more, H' b = some (.tb g (ps ++ more)))
    (ns : ∀ m, s.heap.Ns X.env.locals m → h'.Ns X.env.locals m) (hok : HOk X.prog X.w H' h') (hg : AllBare g') :
    Inv X pins σ H' { s with heap := h', gens := g', drawn := d', toks := t' } := by
  have neL : ∀ b o, X.s_0.heap.get? b = some o → b ≠ X.env.locals := fun b o e => Nat.ne_of_lt (Nat.lt_of_lt_of_le (Heap.lt_size e) I.ok.above)
  have neC : ∀ b o, X.s_0.heap.get? b = some o → b ∉ X.ex → b ∉ ch := fun b o e hx hb => by
    rcases (hch b hb).1 with z | z
    · exact hx z
    · exact absurd (Nat.lt_of_lt_of_le (Heap.lt_size e) z) (Nat.lt_irrefl _)
  have cellK : ∀ x c, X.env.cells.lookup x = some c → ∀ v, s.heap.IsCell c v → h'.IsCell c v := fun x c e v ⟨o, ho, hd⟩ => by
    have nch : c ∉ ch := fun z => (hch c z).2.2.1 x c e rfl
    by_cases hc : c ∈ X.fs
    · obtain ⟨sl, q⟩ := slot c o (I.cne x c e) hc nch ho (I.freeC x c e)
      exact ⟨_, q, hd⟩
    · exact ⟨o, keep c o (I.cne x c e) hc nch ho (I.freeC x c e), hd⟩
  refine ⟨I.ok, I.os, hg, ⟨fun b o e n hb hx => ?_, fun b o e n hb hx => ?_, fun b o e n hx => ?_, fun b o e hx => ?_, fun b xs e => tups b xs (I.base.tups b xs e), fun b o xs e => frzs b o xs (I.base.frzs b o xs e), fun b _ ps e => ?_⟩, ?_, fun x c e => ?_, ?_, fun x c e => ?_, fun p hp => ?_, hok, I.len⟩
  · exact keep b o (neL b o e) hb (neC b o e hx) (I.base.keep b o e n hb hx) (I.base.free b o e n hx)
  · obtain ⟨sl, e1⟩ := I.base.slot b o e n hb hx
    obtain ⟨sl', e2⟩ := slot b _ (neL b o e) hb (neC b o e hx) e1 (I.base.free b o e n hx)
    exact ⟨sl', e2⟩
  · obtain ⟨o', e1⟩ := I.base.there b o e hx
    exact free b o' (neC b o e hx) e1 (I.base.free b o e n hx)
  · obtain ⟨o', e1⟩ := I.base.there b o e hx
    exact there b o' (neC b o e hx) e1
  · obtain ⟨m1, e1⟩ := I.base.tbls b _ ps e
    obtain ⟨m2, e2⟩ := tbls b _ _ e1
    exact ⟨m1 ++ m2, by rw [e2, Array.append_assoc]⟩
  · obtain ⟨m, hn, hl⟩ := I.loc
    refine ⟨m, ns m hn, fun i x v e1 e2 e3 => ?_⟩
    obtain ⟨u, r, l⟩ := hl i x v e1 e2 e3
    refine ⟨u, r, ?_⟩
    rcases l with l | ⟨k, c, e, z⟩
    · exact .inl l
    · exact .inr ⟨k, c, e, cellK x c e _ z⟩
  · obtain ⟨v, z⟩ := I.cell x c e
    exact ⟨v, cellK x c e v z⟩
  · obtain ⟨m, ⟨o, _, _, ho, _⟩, _⟩ := I.loc
    exact free _ o (fun z => (hch _ z).2.1 rfl) ho I.free
  · obtain ⟨v, o, ho, hd⟩ := I.cell x c e
    exact free c o (fun z => (hch c z).2.2.1 x c e rfl) ho (I.freeC x c e)
  · obtain ⟨e, n, ne, nf, d⟩ := I.pin p hp
    have nch : p.1 ∉ ch := fun z => (hch p.1 z).2.2.2 p hp rfl
    exact ⟨keep p.1 p.2 ne nf nch e n, free p.1 p.2 nch e n, ne, nf, d⟩
/-- .. where the frame's own object is kept too -/
theorem Inv.un {t' : Nat} (I : Inv X pins σ H s) (u : Un X.fs [] H H' s.heap h') (hok : HOk X.prog X.w H' h') : Inv X pins σ H' { s with heap := h', toks := t' } := by
  obtain ⟨m, ⟨o, es, ep, ho, r⟩, _⟩ := id I.loc
  obtain ⟨sl, hL⟩ := u.any ho I.free (by simp)
  exact I.step (g' := s.gens) (d' := s.drawn) (ch := []) (fun _ z => nomatch z) (fun b o _ hb _ e n => u.keep b o e n hb (by simp)) (fun b o _ hb _ e n => u.slot b o e n hb (by simp)) (fun b o _ e n => u.free b o e n (by simp)) (fun b o _ e => u.there b o e (by simp)) u.tups u.frzs u.tbls (fun m' hm => by
    obtain ⟨o', es', ep', ho', r'⟩ := hm
    rw [ho] at ho'; cases ho'
    exact ⟨_, es', ep', hL, r'⟩) hok I.bare
/-- behind a call (or a comprehension's block): the slots of this frame may have changed too, the records at ch may have turned -/
theorem Inv.call {g' : Array GenState} {t' : Nat} {d' : Drawn} {ch : List Addr} (I : Inv X pins σ H s) (u : Un (frs X.stack) ch H H' s.heap h') (hok : HOk X.prog X.w H' h') (hg : AllBare g')
    (hch : ∀ b ∈ ch, (b ∈ X.ex ∨ X.s_0.heap.objs.size ≤ b) ∧ b ≠ X.env.locals ∧ (∀ x c, X.env.cells.lookup x = some c → c ≠ b) ∧ ∀ p ∈ X.pn ++ pins, p.1 ≠ b) :
    Inv X pins σ H' { s with heap := h', gens := g', drawn := d', toks := t' } := by
  obtain ⟨m, ⟨o, es, ep, ho, r⟩, _⟩ := id I.loc
  obtain ⟨sl, hL⟩ := u.any ho I.free fun z => (hch _ z).2.1 rfl
  exact I.step (ch := ch) hch (fun b o hL hb hc e n => u.keep b o e n (fun z => (List.mem_cons.mp (I.stkSub b z)).elim hL hb) hc) (fun b o _ _ hc e n => u.any e n hc) (fun b o hc e n => u.free b o e n hc) (fun b o hc e => u.there b o e hc) u.tups u.frzs u.tbls (fun m' hm => by
    obtain ⟨o', es', ep', ho', r'⟩ := hm
    rw [ho] at ho'; cases ho'
    exact ⟨_, es', ep', hL, r'⟩) hok hg
/-- an untracked record of ours (an iterator) has turned -/
theorem Inv.turned {t' : Nat} {it : Addr} (I : Inv X pins σ H s) (k : ∀ b o, b ≠ it → s.heap.get? b = some o → h'.get? b = some o) (hn : H it = none) (hL : it ≠ X.env.locals)
    (h1 : it ∈ X.ex ∨ X.s_0.heap.objs.size ≤ it) (h2 : ∀ x c, X.env.cells.lookup x = some c → c ≠ it) (h3 : ∀ p ∈ X.pn ++ pins, p.1 ≠ it) : Inv X pins σ H { s with heap := h', toks := t' } := by
  have nit : ∀ b u, H b = some u → b ≠ it := fun b u e z => by rw [z, hn] at e; cases e
  refine I.step (g' := s.gens) (d' := s.drawn) (ch := [it]) (fun b hb => ?_) (fun b o _ _ hc e _ => k b o (fun z => hc (by simp [z])) e) (fun b o _ _ hc e _ => ⟨o.slots, k b o (fun z => hc (by simp [z])) e⟩) (fun _ _ _ _ n => n)
    (fun b o hc e => ⟨o, k b o (fun z => hc (by simp [z])) e⟩) (fun _ _ e => e) (fun _ _ _ e => e) (fun b _ ps e => ⟨#[], by rw [e]; simp⟩) (fun m hm => ?_) (fun b u e => ?_) I.bare
  · have e : b = it := by simpa using hb
    subst e
    exact ⟨h1, hL, h2, h3⟩
  · obtain ⟨o, es, ep, ho, r⟩ := hm
    exact ⟨o, es, ep, k _ o (Ne.symm hL) ho, r⟩
  · refine (I.hok b u e).stay (fun c v hc q => k c v ?_ q) (fun _ q => q) fun _ _ q => q
    rcases hc with z | z
    · rw [z]; exact nit b u e
    · exact nit c _ z
theorem Inv.tok (I : Inv X pins σ H s) (t : Nat) : Inv X pins σ H { s with toks := t } := I.un (h' := s.heap) (t' := t) Un.refl I.hok
/-- all objects kept -/
theorem Inv.kept {t' : Nat} (I : Inv X pins σ H s) (k : ∀ b u, s.heap.get? b = some u → h'.get? b = some u) : Inv X pins σ H { s with heap := h', toks := t' } := I.un (Un.kept k) (I.hok.kept k)
/-- a new object laid and tracked -/
theorem Inv.laid {a : Addr} {o : HO} {t' : Nat} (I : Inv X pins σ H s) (k : ∀ b u, s.heap.get? b = some u → h'.get? b = some u) (hp : s.heap.objs.size ≤ a) (new : ObjOk X.prog X.w (upd H a o) h' a o) :
    Inv X pins σ (upd H a o) { s with heap := h', toks := t' } := I.un (Un.laid k hp (I.hok.fresh hp)) (I.hok.laid k hp new)
/-- an object written -/
theorem Inv.write {x e : Addr} {o : HO} {t' : Nat} (I : Inv X pins σ H s) (mu : Mut (H x)) (he : e = x ∨ H e = some (.own x)) (k : ∀ b u, b ≠ e → s.heap.get? b = some u → h'.get? b = some u) (heo : ∃ u, h'.get? e = some u)
    (new : ObjOk X.prog X.w (upd H x o) h' x o) : Inv X pins σ (upd H x o) { s with heap := h', toks := t' } := I.un (Un.write mu he k heo) (I.hok.write mu he k heo new)
/-- forgetting slots, pins -/
theorem Inv.weak {σ' : List (Option V)} (I : Inv X pins σ H s) (hl : σ'.length = σ.length) (w : ∀ (i : Nat) v, σ'[i]? = some (some v) → σ[i]? = some (some v)) : Inv X pins σ' H s :=
  ⟨I.ok, I.os, I.bare, I.base, let ⟨m, hn, hl'⟩ := I.loc; ⟨m, hn, fun i x v e1 e2 e3 => hl' i x v e1 (w i v e2) e3⟩, I.cell, I.free, I.freeC, I.pin, I.hok, hl.trans I.len⟩
theorem Inv.pins_of {pins' : List (Addr × Obj)} (I : Inv X pins σ H s) (h : ∀ p ∈ pins', s.heap.get? p.1 = some p.2 ∧ H p.1 = none ∧ p.1 ≠ X.env.locals ∧ p.1 ∉ X.fs ∧ ∀ v, p.2.data ≠ .cell v) : Inv X pins' σ H s :=
  ⟨I.ok, I.os, I.bare, I.base, I.loc, I.cell, I.free, I.freeC, fun p hp => (List.mem_append.mp hp).elim (fun z => I.pin p (List.mem_append_left _ z)) (h p), I.hok, I.len⟩
theorem nodup_ix {N : List Str} (hN : N.Nodup) {i j : Nat} {x : Str} (a : N[i]? = some x) (b : N[j]? = some x) : i = j := by
  obtain ⟨h1, e1⟩ := List.getElem?_eq_some_iff.mp a
  obtain ⟨h2, e2⟩ := List.getElem?_eq_some_iff.mp b
  exact (List.getElem_inj hN).mp (e1.trans e2.symm)
/-- a name is stored; what changed -/
theorem store_ok2 {M : Model} {A : Around} {E : Value → Shared → Prop} {i : Nat} {x : Str} {v : V} {u : Value} {Q : Unit → Shared → Prop} (I : Inv X pins σ H s) (hN : X.N.Nodup) (hi : X.N[i]? = some x) (hx : Loc X.env.scope x) (r : RelV v u)
    (h : ∀ s', Inv X pins (σ.set i (some v)) H s' → (∃ a, Heap.SameBut a s.heap s'.heap ∧ (a = X.env.locals ∨ X.env.cells.lookup x = some a)) → Q () s') (hf : X.fn x = true ∨ X.env.scope.names.lookup x = some .local := by first | exact .inl rfl | exact .inr rfl | assumption) : wpAny M A (storeName X.env x u) Q E s := by
  obtain ⟨m, hn, hl⟩ := id I.loc
  have hcls : (X.env.scope.kind == .class || (X.env.scope.kind == .module && X.env.locals != X.env.globals)) = false := by rw [I.ok.kind]; rfl
  have hiσ : i < σ.length := by rw [I.len]; exact (List.getElem?_eq_some_iff.mp hi).1
  have cne := I.cne
  have tracked : ∀ {a : Addr} {h' : Heap}, (∃ o, s.heap.get? a = some o ∧ H a = none) → Heap.SameBut a s.heap h' → HOk X.prog X.w H h' := fun {a h'} ha hs b ob e => by
    obtain ⟨_, _, hfree⟩ := ha
    refine (I.hok b ob e).stay (fun c w' hc q => (hs.2 c ?_).trans q) (fun _ q => q) fun _ _ q => q
    rintro rfl
    rcases hc with rfl | hc
    · rw [hfree] at e; cases e
    · rw [hfree] at hc; cases hc
  rcases hx with hk | hk
  · refine wpAny_storeName_local hk hn (fun h' hn' hs => ?_) hcls
    obtain ⟨oL, _, _, hoL, _⟩ := id hn
    refine h _ ⟨I.ok, I.os, I.bare, ⟨fun b o e n hb hx => ?_, fun b o e n hb hx => ?_, I.base.free, fun b o e hx => ?_, I.base.tups, I.base.frzs, I.base.tbls⟩, ⟨_, hn', fun j y v' e1 e2 e3 => ?_⟩, fun y c e => ?_, I.free, I.freeC, fun p hp => ?_, tracked ⟨oL, hoL, I.free⟩ hs, by simpa using I.len⟩ ⟨_, hs, .inl rfl⟩
    · exact (hs.2 b (Nat.ne_of_lt (Nat.lt_of_lt_of_le (Heap.lt_size e) I.ok.above))).trans (I.base.keep b o e n hb hx)
    · obtain ⟨sl, e1⟩ := I.base.slot b o e n hb hx
      exact ⟨sl, (hs.2 b (Nat.ne_of_lt (Nat.lt_of_lt_of_le (Heap.lt_size e) I.ok.above))).trans e1⟩
    · obtain ⟨o', e1⟩ := I.base.there b o e hx
      exact ⟨o', (hs.2 b (Nat.ne_of_lt (Nat.lt_of_lt_of_le (Heap.lt_size e) I.ok.above))).trans e1⟩
    · by_cases hj : j = i
      · subst hj
        rw [hi] at e1; cases e1
        rw [List.getElem?_set_self hiσ] at e2
        cases e2
        exact ⟨u, r, .inl ⟨hk, by simp⟩⟩
      · rw [List.getElem?_set_ne (Ne.symm hj)] at e2
        obtain ⟨u', r', q⟩ := hl j y v' e1 e2 e3
        refine ⟨u', r', ?_⟩
        rcases q with ⟨k, e⟩ | ⟨k, c, e, z⟩
        · refine .inl ⟨k, ?_⟩
          have : y ≠ x := fun e => hj (nodup_ix hN e1 (e ▸ hi))
          simp [this, e]
        · exact .inr ⟨k, c, e, z.sameBut hs (cne y c e)⟩
    · obtain ⟨w', z⟩ := I.cell y c e
      exact ⟨w', z.sameBut hs (cne y c e)⟩
    · obtain ⟨e, n, ne, nf, d⟩ := I.pin p hp
      exact ⟨(hs.2 p.1 ne).trans e, n, ne, nf, d⟩
  · have hfn : X.fn x = true := by
      rcases hf with z | z
      · exact z
      · rw [z] at hk; cases hk
    obtain ⟨c, hc⟩ := I.ok.has x (.inl hk)
    obtain ⟨w', z⟩ := I.cell x c hc
    refine wpAny_storeName_cell I.ok.kind hk hc z (fun h' hc' hs => ?_)
    obtain ⟨oc, hoc, hocd⟩ := id z
    refine h { s with heap := h' } ⟨I.ok, I.os, I.bare, ⟨fun b o e n hb hx => ?_, fun b o e n hb hx => ?_, I.base.free, fun b o e hx => ?_, I.base.tups, I.base.frzs, I.base.tbls⟩, ⟨m, hn.sameBut hs (Ne.symm (cne x c hc)), fun j y v' e1 e2 e3 => ?_⟩, fun y c' e => ?_, I.free, I.freeC, fun p hp => ?_, tracked ⟨oc, hoc, I.freeC x c hc⟩ hs, by simpa using I.len⟩ ⟨c, hs, .inr hc⟩
    · exact (hs.2 b (Nat.ne_of_lt (Nat.lt_of_lt_of_le (Heap.lt_size e) (I.ok.cab x c hfn hc)))).trans (I.base.keep b o e n hb hx)
    · obtain ⟨sl, e1⟩ := I.base.slot b o e n hb hx
      exact ⟨sl, (hs.2 b (Nat.ne_of_lt (Nat.lt_of_lt_of_le (Heap.lt_size e) (I.ok.cab x c hfn hc)))).trans e1⟩
    · obtain ⟨o', e1⟩ := I.base.there b o e hx
      exact ⟨o', (hs.2 b (Nat.ne_of_lt (Nat.lt_of_lt_of_le (Heap.lt_size e) (I.ok.cab x c hfn hc)))).trans e1⟩
    · by_cases hj : j = i
      · subst hj
        rw [hi] at e1; cases e1
        rw [List.getElem?_set_self hiσ] at e2
        cases e2
        exact ⟨u, r, .inr ⟨.inl hk, c, hc, hc'⟩⟩
      · rw [List.getElem?_set_ne (Ne.symm hj)] at e2
        obtain ⟨u', r', q⟩ := hl j y v' e1 e2 e3
        refine ⟨u', r', ?_⟩
        rcases q with q | ⟨k, c', e, z'⟩
        · exact .inl q
        · refine .inr ⟨k, c', e, z'.sameBut hs ?_⟩
          rintro rfl
          exact hj (nodup_ix hN e1 (I.ok.inj _ _ _ e hc ▸ hi))
    · by_cases hcc : c' = c
      · subst hcc; exact ⟨_, hc'⟩
      · obtain ⟨w2, z2⟩ := I.cell y c' e
        exact ⟨w2, z2.sameBut hs hcc⟩
    · obtain ⟨e, n, ne, nf, d⟩ := I.pin p hp
      refine ⟨(hs.2 p.1 ?_).trans e, n, ne, nf, d⟩
      intro q
      rw [q, hoc] at e
      have q' : oc = p.2 := Option.some.inj e
      exact d w' (by rw [← q']; exact hocd)
theorem store_ok {M : Model} {A : Around} {E : Value → Shared → Prop} {i : Nat} {x : Str} {v : V} {u : Value} {Q : Unit → Shared → Prop} (I : Inv X pins σ H s) (hN : X.N.Nodup) (hi : X.N[i]? = some x) (hx : Loc X.env.scope x) (r : RelV v u)
    (h : ∀ s', Inv X pins (σ.set i (some v)) H s' → Q () s') (hf : X.fn x = true ∨ X.env.scope.names.lookup x = some .local := by first | exact .inl rfl | exact .inr rfl | assumption) : wpAny M A (storeName X.env x u) Q E s :=
  store_ok2 I hN hi hx r (fun s' I' _ => h s' I') hf
/-- behind a call or a block, the state as it is -/
theorem Inv.call' {s' : Shared} {ch : List Addr} (I : Inv X pins σ H s) (ho : s'.os = s.os) (u : Un (frs X.stack) ch H H' s.heap s'.heap) (hok : HOk X.prog X.w H' s'.heap) (hg : AllBare s'.gens)
    (hch : ∀ b ∈ ch, (b ∈ X.ex ∨ X.s_0.heap.objs.size ≤ b) ∧ b ≠ X.env.locals ∧ (∀ x c, X.env.cells.lookup x = some c → c ≠ b) ∧ ∀ p ∈ X.pn ++ pins, p.1 ≠ b) : Inv X pins σ H' s' := by
  obtain ⟨h', g', d', t', o'⟩ := s'
  have e : o' = s.os := ho
  subst e
  exact I.call (g' := g') (t' := t') (d' := d') u hok hg hch
end
/-! ### the judgements -/
/-- an exception: its class, its own dict's address (where it has one), the abstract heap behind it -/
abbrev XK := Value → Option Addr → Hp → Prop
abbrev St := List (Option V)
abbrev VK := V → Hp → Prop
/-- an expression's reading; a test's; an argument list's -/
abbrev TE := St → Hp → VK → Prop
abbrev TT := St → Hp → (Bool → Hp → Prop) → Prop
abbrev TA := St → Hp → (List V → Hp → Prop) → Prop
/-- what is wanted behind a statement -/
structure Ends where
  nx : St → Hp → Prop
  rt : VK
  bk : St → Hp → Prop := fun _ _ => False
  ct : St → Hp → Prop := fun _ _ => False
abbrev TS := Ends → St → Hp → Prop
def EP (X : Cx) (pins : List (Addr × Obj)) (σ : St) (Q : VK) (u : Value) (s' : Shared) : Prop := ∃ v H', Inv X pins σ H' s' ∧ RelV v u ∧ Q v H'
def TP (X : Cx) (pins : List (Addr × Obj)) (σ : St) (Q : Bool → Hp → Prop) (b : Bool) (s' : Shared) : Prop := ∃ H', Inv X pins σ H' s' ∧ Q b H'
def AP (X : Cx) (pins : List (Addr × Obj)) (σ : St) (Q : List V → Hp → Prop) (us : List Value) (s' : Shared) : Prop := ∃ vs H', Inv X pins σ H' s' ∧ Vals vs us ∧ Q vs H'
def SP (X : Cx) (pins : List (Addr × Obj)) (D : Ends) (f : Flow) (s' : Shared) : Prop :=
  match f with
  | .next => ∃ σ' H', Inv X pins σ' H' s' ∧ D.nx σ' H'
  | .brk => ∃ σ' H', Inv X pins σ' H' s' ∧ D.bk σ' H'
  | .cont => ∃ σ' H', Inv X pins σ' H' s' ∧ D.ct σ' H'
  | .ret u => ∃ v σ' H', Inv X pins σ' H' s' ∧ RelV v u ∧ D.rt v H'
def PE (X : Cx) (e : Expr) (t : TE) : Prop :=
  ∀ (pins : List (Addr × Obj)) (s : Shared) (σ : St) (H : Hp) (Q : VK), Inv X pins σ H s → t σ H Q → wpAny (model X.prog X.w) X.A (eval e X.env) (EP X pins σ Q) X.xe s
def PT (X : Cx) (e : Expr) (t : TT) : Prop :=
  ∀ (pins : List (Addr × Obj)) (s : Shared) (σ : St) (H : Hp) (Q : Bool → Hp → Prop), Inv X pins σ H s → t σ H Q → wpAny (model X.prog X.w) X.A (isTrue e X.env (eval e X.env)) (TP X pins σ Q) X.xe s
/-- a test whatever its 'whole' is (and, or) -/
def PW (X : Cx) (e : Expr) (t : TT) : Prop :=
  ∀ (whole : Sem Value) (pins : List (Addr × Obj)) (s : Shared) (σ : St) (H : Hp) (Q : Bool → Hp → Prop), Inv X pins σ H s → t σ H Q → wpAny (model X.prog X.w) X.A (isTrue e X.env whole) (TP X pins σ Q) X.xe s
theorem PW.pt {X : Cx} {e : Expr} {t : TT} (h : PW X e t) : PT X e t := h _
/-- an argument list (no star), from the left -/
def PA (X : Cx) (es : List Expr) (t : TA) : Prop :=
  ∀ (pos : Pos) (pins : List (Addr × Obj)) (s : Shared) (σ : St) (H : Hp) (Q : List V → Hp → Prop), Inv X pins σ H s → t σ H Q → wpAny (model X.prog X.w) X.A (spliced (backTo pos (starEach es X.env))) (AP X pins σ Q) X.xe s
def PS (X : Cx) (st : Stmt) (t : TS) : Prop :=
  ∀ (pins : List (Addr × Obj)) (s : Shared) (σ : St) (H : Hp) (D : Ends), Inv X pins σ H s → t D σ H → wpAny (model X.prog X.w) X.A (exec st X.env) (SP X pins D) X.xe s
def PSs (X : Cx) (st : List Stmt) (t : TS) : Prop :=
  ∀ (pins : List (Addr × Obj)) (s : Shared) (σ : St) (H : Hp) (D : Ends), Inv X pins σ H s → t D σ H → wpAny (model X.prog X.w) X.A (execs st X.env) (SP X pins D) X.xe s
/-- weaken the end -/
theorem thn {α : Type} {t : Sem α} {Q Q' : α → Shared → Prop} {M : Model} {A : Around} {E : Value → Shared → Prop} {s : Shared} (h : wpAny M A t Q E s) (hQ : ∀ a s, Q a s → Q' a s) : wpAny M A t Q' E s := wpAny_mono h hQ fun _ _ x => x
end L2
namespace L2
open PySem PySem.Spec PyProof.Rows
section
variable {X : Cx}
/-! ### names and constants -/
def tVar (i : Nat) : TE := fun σ H Q => ∃ v, σ[i]? = some (some v) ∧ Q v H
def tC (v : V) : TE := fun _ H Q => Q v H
theorem pe_var {i : Nat} {x : Str} {pos : Pos} (hN : X.N[i]? = some x) (hv : Vis X.env.scope x) (hd : (x == ("__debug__" : Str)) = false := by decide) (hcd : (x == ("__classdict__" : Str)) = false := by decide) : PE X (.Name x pos) (tVar i) := by
  intro pins s σ H Q I h
  obtain ⟨v, e, h⟩ := h
  obtain ⟨m, hn, hl⟩ := I.loc
  obtain ⟨u, r, l⟩ := hl i x v hN e hv
  have fin : EP X pins σ Q u s := ⟨v, H, I, r, h⟩
  rcases l with ⟨hk, hm⟩ | ⟨hk, c, hc, hcell⟩
  · exact wpAny_Name (wpAny_loadName_local I.ok.kind hk hn hm fin) hd
  · rcases hk with hk | hk
    · exact wpAny_Name (wpAny_loadName_cell I.ok.kind hk hc hcell fin) hd
    · exact wpAny_Name (wpAny_loadName_free I.ok.kind hk hc hcell fin hcd) hd
theorem pe_int {i j pos} : PE X (.Constant (.int i) j pos) (tC (.int i)) := fun _ _ _ H _ I h => wpAny_Constant_int ⟨.int i, H, I.tok _, ⟨_, rfl⟩, h⟩
theorem pe_bl {b j pos} : PE X (.Constant (.bool b) j pos) (tC (.bl b)) := fun _ _ _ H _ I h => Constant_bool ⟨.bl b, H, I, rfl, h⟩
theorem pe_non {j pos} : PE X (.Constant .none j pos) (tC .non) := fun _ _ _ H _ I h => Constant_none ⟨.non, H, I, rfl, h⟩
theorem pe_str {x j pos} : PE X (.Constant (.str x) j pos) (tC (.str x)) := fun _ _ _ H _ I h => Calls.Constant_str ⟨.str x, H, I.tok _, ⟨_, rfl⟩, h⟩
/-- a global name of the def -/
def Gl (X : Cx) (x : Str) : Prop := X.env.kindOf x = some .globalImplicit
theorem ld_glob {E : Value → Shared → Prop} {pins : List (Addr × Obj)} {s : Shared} {σ : St} {H : Hp} {x : Str} {u : Value} {pos : Pos} {Q : Value → Shared → Prop} (I : Inv X pins σ H s) (hg : Gl X x) (hm : X.mg x = some u) (h : Q u s)
    (hd : (x == ("__debug__" : Str)) = false := by decide) : wpAny (model X.prog X.w) X.A (eval (.Name x pos) X.env) Q E s :=
  Calls.Name_function_global I.ok.kind hg (Calls.loadGlobal_global (by rw [I.ok.glob]; exact I.mod.glob.keeps I.bk) hm h) hd
theorem ld_blt {E : Value → Shared → Prop} {pins : List (Addr × Obj)} {s : Shared} {σ : St} {H : Hp} {x : Str} {u : Value} {pos : Pos} {Q : Value → Shared → Prop} (I : Inv X pins σ H s) (hg : Gl X x) (hm : X.mg x = none) (hv : bootBuiltins x = some u) (h : Q u s)
    (hn : x ≠ "__name__" := by decide) (hd : (x == ("__debug__" : Str)) = false := by decide) : wpAny (model X.prog X.w) X.A (eval (.Name x pos) X.env) Q E s := by
  obtain ⟨mb, h1, h2⟩ := I.mod.blt
  exact Calls.Name_function_global I.ok.kind hg (Calls.loadGlobal_builtin (by rw [I.ok.glob]; exact I.mod.glob.keeps I.bk) hm (by rw [I.ok.blt]; exact h1.keeps I.bk) ((h2 x hn).trans hv) h) hd
/-- a module's constant, a class, a function, as a value -/
theorem pe_glob {x : Str} {v : V} {u : Value} {pos : Pos} (hg : Gl X x) (hm : X.mg x = some u) (r : RelV v u) (hd : (x == ("__debug__" : Str)) = false := by decide) : PE X (.Name x pos) (tC v) :=
  fun _ _ _ H _ I h => ld_glob I hg hm ⟨v, H, I, r, h⟩ hd
/-! ### arithmetic -/
variable {a b : Expr} {ta tb : TE} {pos : Pos}
/-! ### comparisons -/
def PC (X : Cx) (op : CmpOp) (a b : Expr) (t : TE) : Prop :=
  ∀ (pins : List (Addr × Obj)) (s : Shared) (σ : St) (H : Hp) (Q : VK), Inv X pins σ H s → t σ H Q →
    wpAny (model X.prog X.w) X.A (eval a X.env) (fun v s₁ => wpAny (model X.prog X.w) X.A (eval b X.env) (fun u s₂ => wpAny (model X.prog X.w) X.A (compareOp op v u) (EP X pins σ Q) X.xe s₂) X.xe s₁) X.xe s
theorem nobehind (b : Expr) {op : CmpOp} (h : op ≠ .In) (h2 : op ≠ .NotIn) : behindInMarks op b = false := by
  have e1 : (op == CmpOp.In) = false := by cases op <;> first | rfl | exact absurd rfl h
  have e2 : (op == CmpOp.NotIn) = false := by cases op <;> first | rfl | exact absurd rfl h2
  cases b <;> simp [behindInMarks, e1, e2]
/-- is None -/
def tIsN (ta : TE) : TE := fun σ H Q => ta σ H fun x H1 => Q (.bl (decide (x = .non))) H1
theorem RelV.none_iff {x : V} {v : Value} (r : RelV x v) : (v == Value.none) = decide (x = .non) := by
  cases x with
  | non => cases r; rfl
  | bl _ => cases r; rfl
  | int _ => obtain ⟨t, rfl⟩ := r; rfl
  | str _ => obtain ⟨t, rfl⟩ := r; rfl
  | byt _ => obtain ⟨t, rfl⟩ := r; rfl
  | flt _ => obtain ⟨t, rfl⟩ := r; rfl
  | ref _ => cases r; rfl
  | ty _ => cases r; rfl
theorem pc_isN {j pos'} (ha : PE X a ta) : PC X .Is a (.Constant .none j pos') (tIsN ta) := by
  intro pins s σ H Q I h
  refine thn (ha pins s σ H _ I h) fun v s1 ⟨x, H1, I1, r1, q1⟩ => ?_
  exact Constant_none (is_none_gen ⟨.bl _, H1, I1, by rw [r1.none_iff]; rfl, q1⟩)
/-- a comparison as a value, as a test -/
def tB (t : TE) : TT := fun σ H Q => t σ H fun x H1 => ∃ c, x = .bl c ∧ Q c H1
theorem pt_cmp {op : CmpOp} {t : TE} (h : PC X op a b t) (h1 : behindInMarks op b = false := by first | exact nobehind _ (by decide) (by decide) | rfl) : PT X (.Compare a [op] [b] pos) (tB t) := by
  intro pins s σ H Q I hw
  refine wpAny_isTrue_Compare1 (thn (h pins s σ H _ I hw) fun v s1 h1 => thn h1 fun u s2 h2 => thn h2 fun c s3 ⟨x, H1, I1, r1, q1⟩ => ?_) h1
  obtain ⟨d, rfl, q⟩ := q1
  cases r1
  exact wpAny_truthy_bool ⟨H1, I1, q⟩
/-- an expression whose value is a bool, as a test -/
theorem pt_val {e : Expr} {t : TE} (h : PE X e t) (he : ∀ whole, isTrue e X.env whole = (do let v ← whole; standAt e.pos; holding [v] (truthy v)) := by intro _; rfl) : PT X e (tB t) := by
  intro pins s σ H Q I hw
  refine isTrue_plain (thn (h pins s σ H _ I hw) fun v s1 ⟨x, H1, I1, r1, q1⟩ => ?_) (he _)
  obtain ⟨d, rfl, q⟩ := q1
  cases r1
  exact wpAny_truthy_bool ⟨H1, I1, q⟩
/-! ### and, or, not -/
variable {tA tB' : TT} {rest : List Expr}
def tOr (t u : TT) : TT := fun σ H Q => t σ H fun c H1 => if c = true then Q true H1 else u σ H1 Q
def tNot (t : TT) : TT := fun σ H Q => t σ H fun c H1 => Q (!c) H1
theorem pw_or1 (ha : PT X a tA) : PW X (.BoolOp .Or [a] pos) tA := by
  intro wh pins s σ H Q I h
  refine isTrue_or (thn (ha pins s σ H Q I h) fun c s1 e => ?_)
  cases c with
  | false => exact isTrue_or_nil e
  | true => exact e
theorem pw_or (ha : PT X a tA) (hb : PW X (.BoolOp .Or (b :: rest) pos) tB') : PW X (.BoolOp .Or (a :: b :: rest) pos) (tOr tA tB') := by
  intro wh pins s σ H Q I h
  refine isTrue_or (thn (ha pins s σ H _ I h) fun c s1 ⟨H1, I1, q1⟩ => ?_)
  cases c with
  | true => exact ⟨H1, I1, q1⟩
  | false => exact hb wh pins s1 σ H1 Q I1 q1
theorem pt_not (ha : PT X a tA) : PT X (.UnaryOp .Not a pos) (tNot tA) := by
  intro pins s σ H Q I h
  exact isTrue_not (ha pins s σ H (fun c H1 => Q (!c) H1) I h)
/-- .. as values (bools) -/
def tAndV (ta tb : TE) : TE := fun σ H Q => ta σ H fun x H1 => ∃ c, x = .bl c ∧ if c = true then tb σ H1 Q else Q (.bl false) H1
def tNotV (ta : TE) : TE := fun σ H Q => ta σ H fun x H1 => ∃ c, x = .bl c ∧ Q (.bl (!c)) H1
theorem pe_one {op} {t : TE} (h : PE X a t) : PE X (.BoolOp op [a] pos) t := fun pins s σ H Q I hw => BoolOp_one (h pins s σ H Q I hw)
theorem pe_and (ha : PE X a ta) (hb : PE X (.BoolOp .And (b :: rest) pos) tb) : PE X (.BoolOp .And (a :: b :: rest) pos) (tAndV ta tb) := by
  intro pins s σ H Q I h
  refine BoolOp_and (thn (ha pins s σ H _ I h) fun v s1 ⟨x, H1, I1, r1, q1⟩ => ?_)
  obtain ⟨c, rfl, q1⟩ := q1
  cases r1
  refine wpAny_truthy_bool ?_
  cases c with
  | true => exact hb pins s1 σ H1 Q I1 q1
  | false => exact ⟨.bl false, H1, I1, rfl, q1⟩
theorem pe_not (ha : PE X a ta) : PE X (.UnaryOp .Not a pos) (tNotV ta) := by
  intro pins s σ H Q I h
  refine UnaryOp_ (thn (ha pins s σ H _ I h) fun v s1 ⟨x, H1, I1, r1, q1⟩ => ?_)
  obtain ⟨c, rfl, q1⟩ := q1
  cases r1
  exact not_of (wpAny_truthy_bool ⟨.bl (!c), H1, I1, rfl, q1⟩)
/-- a if t else b -/
def tIf (t : TT) (ta tb : TE) : TE := fun σ H Q => t σ H fun c H1 => if c = true then ta σ H1 Q else tb σ H1 Q
theorem pe_ifExp {c : Expr} (hc : PT X c tA) (ha : PE X a ta) (hb : PE X b tb) : PE X (.IfExp c a b pos) (tIf tA ta tb) := by
  intro pins s σ H Q I h
  refine wpAny_IfExp (thn (hc pins s σ H _ I h) fun d s1 ⟨H1, I1, q1⟩ => ?_)
  cases d with
  | true => exact ha pins s1 σ H1 Q I1 q1
  | false => exact hb pins s1 σ H1 Q I1 q1
end
end L2
namespace L2
open PySem PySem.Spec PyProof.Rows
/-! ### a list, a tuple that is read: tracked, frozen, or an object of the module -/
def SqL (K : PySem.W.Frag) (H : Hp) (a : Addr) (xs : List V) : Prop :=
  Rd H a (.lst xs) ∨
    ∃ (o : Obj) (its : Array Value) (n : Nat), K.lookup a = some o ∧ o.cls = .type "list" ∧ o.dict = none ∧ o.data = .seq its n ∧ its.size ≤ sizeLine ∧ Vals xs its.toList
def SqT (K : PySem.W.Frag) (H : Hp) (a : Addr) (xs : List V) : Prop :=
  Rd H a (.tup xs) ∨
    ∃ (o : Obj) (its : Array Value) (n : Nat), K.lookup a = some o ∧ o.cls = .type "tuple" ∧ o.data = .seq its n ∧ its.size ≤ sizeLine ∧ Vals xs its.toList
def absV : Value → Option V
  | .none => some .non
  | .bool b => some (.bl b)
  | .int i _ => some (.int i)
  | .str x _ => some (.str x)
  | .bytes b _ => some (.byt b)
  | .float b _ => some (.flt b)
  | .ref a => some (.ref a)
  | .type n => some (.ty n)
  | _ => none
theorem RelV.abs {x : V} {u : Value} (r : RelV x u) : absV u = some x := by
  cases x with
  | non => cases r; rfl
  | bl _ => cases r; rfl
  | int _ => obtain ⟨t, rfl⟩ := r; rfl
  | str _ => obtain ⟨t, rfl⟩ := r; rfl
  | byt _ => obtain ⟨t, rfl⟩ := r; rfl
  | flt _ => obtain ⟨t, rfl⟩ := r; rfl
  | ref _ => cases r; rfl
  | ty _ => cases r; rfl
theorem RelV.inj {x y : V} {u : Value} (r : RelV x u) (q : RelV y u) : x = y := Option.some.inj (r.abs.symm.trans q.abs)
theorem Vals.inj : ∀ {xs ys : List V} {us : List Value}, Vals xs us → Vals ys us → xs = ys
  | _, _, _, .nil, .nil => rfl
  | _, _, _, .cons r t, .cons r' t' => by rw [r.inj r', Vals.inj t t']
section
variable {X : Cx} {pins : List (Addr × Obj)} {σ : St} {H : Hp} {s : Shared} {a : Addr} {xs ys : List V}
theorem SqL.of {K : PySem.W.Frag} (h : H a = some (.lst xs)) : SqL K H a xs := .inl (.inl h)
theorem SqT.of {K : PySem.W.Frag} (h : H a = some (.tup xs)) : SqT K H a xs := .inl (.inl h)
theorem Inv.list (I : Inv X pins σ H s) (h : SqL X.K H a xs) : ∃ its : List Value, Vals xs its ∧ PlainL s.heap a its.toArray ∧ xs.length ≤ sizeLine := by
  rcases h with h | ⟨o, its, n, hk, hc, hd, hs, hz, r⟩
  · obtain ⟨z, its, n, r, e⟩ := h.ok I.hok
    exact ⟨its, r, ⟨_, n, e, rfl, rfl, rfl⟩, z⟩
  · refine ⟨its.toList, r, ⟨o, n, I.kIn a o hk, hc, hd, by simpa using hs⟩, ?_⟩
    have e := r.length
    simp only [Array.length_toList] at e
    omega
theorem Inv.tuple (I : Inv X pins σ H s) (h : SqT X.K H a xs) : ∃ its : List Value, Vals xs its ∧ IsTup s.heap a its.toArray ∧ xs.length ≤ sizeLine := by
  rcases h with h | ⟨o, its, n, hk, hc, hs, hz, r⟩
  · obtain ⟨z, its, r, p⟩ := h.ok I.hok
    exact ⟨its, r, p, z⟩
  · refine ⟨its.toList, r, ⟨o, I.kIn a o hk, hc, n, by simpa using hs⟩, ?_⟩
    have e := r.length
    simp only [Array.length_toList] at e
    omega
theorem Inv.list_inj (I : Inv X pins σ H s) (h : SqL X.K H a xs) (h' : SqL X.K H a ys) : xs = ys := by
  obtain ⟨its, r, ⟨o, n, e, _, _, d⟩, _⟩ := I.list h
  obtain ⟨its', r', ⟨o', n', e', _, _, d'⟩, _⟩ := I.list h'
  rw [e] at e'; cases e'
  rw [d] at d'
  injection d' with d1 _
  have : its = its' := by simpa using congrArg Array.toList d1
  subst this
  exact r.inj r'
end
/-! ### another wish about exceptions -/
abbrev Cx.wish (X : Cx) (E : Value → Shared → Prop) : Cx := { X with xe := E }
/-- no exception leaves -/
abbrev Cx.nox (X : Cx) : Cx := X.wish fun _ _ => False
theorem Cx.Ok.wish {X : Cx} (ok : X.Ok) (E : Value → Shared → Prop) : (X.wish E).Ok :=
  ⟨ok.mod, ok.kind, ok.glob, ok.blt, ok.above, ok.inj, ok.has, ok.cab, ok.hd, ok.frames, ok.stk, ok.exf, ok.bs, ok.bsz, ok.noex, ok.exfs, ok.funs, ok.frf⟩
theorem Cx.Ok.unwish {X : Cx} {E : Value → Shared → Prop} (ok : (X.wish E).Ok) : X.Ok :=
  ⟨ok.mod, ok.kind, ok.glob, ok.blt, ok.above, ok.inj, ok.has, ok.cab, ok.hd, ok.frames, ok.stk, ok.exf, ok.bs, ok.bsz, ok.noex, ok.exfs, ok.funs, ok.frf⟩
section
variable {X : Cx} {pins : List (Addr × Obj)} {σ : St} {H : Hp} {s : Shared} {E : Value → Shared → Prop}
theorem Inv.wish (I : Inv X pins σ H s) (E : Value → Shared → Prop) : Inv (X.wish E) pins σ H s := ⟨I.ok.wish E, I.os, I.bare, I.base, I.loc, I.cell, I.free, I.freeC, I.pin, I.hok, I.len⟩
theorem Inv.unwish (I : Inv (X.wish E) pins σ H s) : Inv X pins σ H s := ⟨I.ok.unwish, I.os, I.bare, I.base, I.loc, I.cell, I.free, I.freeC, I.pin, I.hok, I.len⟩
theorem SP.unwish {D : Ends} {f : Flow} {s' : Shared} (h : SP (X.wish E) pins D f s') : SP X pins D f s' := by
  cases f with
  | next => obtain ⟨σ', H', I, q⟩ := h; exact ⟨σ', H', I.unwish, q⟩
  | brk => obtain ⟨σ', H', I, q⟩ := h; exact ⟨σ', H', I.unwish, q⟩
  | cont => obtain ⟨σ', H', I, q⟩ := h; exact ⟨σ', H', I.unwish, q⟩
  | ret u => obtain ⟨v, σ', H', I, r, q⟩ := h; exact ⟨v, σ', H', I.unwish, r, q⟩
theorem PE.nox {e : Expr} {t : TE} (h : PE X.nox e t) : PE X e t := fun pins s σ H Q I hw =>
  wpAny_mono (h pins s σ H Q (I.wish _) hw) (fun _ _ ⟨v, H', I', r, q⟩ => ⟨v, H', I'.unwish, r, q⟩) fun _ _ z => False.elim z
theorem PT.nox {e : Expr} {t : TT} (h : PT X.nox e t) : PT X e t := fun pins s σ H Q I hw =>
  wpAny_mono (h pins s σ H Q (I.wish _) hw) (fun _ _ ⟨H', I', q⟩ => ⟨H', I'.unwish, q⟩) fun _ _ z => False.elim z
theorem PSs.nox {st : List Stmt} {t : TS} (h : PSs X.nox st t) : PSs X st t := fun pins s σ H D I hw =>
  wpAny_mono (h pins s σ H D (I.wish _) hw) (fun _ _ q => q.unwish) fun _ _ z => False.elim z
end
/-! ### blocks and small statements -/
section
variable {X : Cx} {st : Stmt} {rest : List Stmt} {t u : TS} {e : Expr} {te : TE} {pos : Pos}
def tNext : TS := fun D σ H => D.nx σ H
def tSeq (t u : TS) : TS := fun D σ H => t { D with nx := u D } σ H
theorem pss_nil : PSs X [] tNext := fun _ _ σ H _ I h => wpAny_execs_nil ⟨σ, H, I, h⟩
theorem pss_cons (h1 : PS X st t) (h2 : PSs X rest u) : PSs X (st :: rest) (tSeq t u) := by
  intro pins s σ H D I h
  refine wpAny_execs_cons (thn (h1 pins s σ H { D with nx := u D } I h) fun f s1 q => ?_)
  cases f with
  | next =>
    obtain ⟨σ', H', I', q⟩ := q
    exact h2 pins s1 σ' H' D I' q
  | ret v => exact q
  | brk => exact q
  | cont => exact q
theorem pss_one (h1 : PS X st t) : PSs X [st] t := by
  intro pins s σ H D I h
  refine wpAny_execs_cons (thn (h1 pins s σ H D I h) fun f s1 q => ?_)
  cases f with
  | next => exact wpAny_execs_nil q
  | ret v => exact q
  | brk => exact q
  | cont => exact q
/-- in a def's body nothing is shown -/
theorem Inv.quiet {pins : List (Addr × Obj)} {σ : St} {H : Hp} {s : Shared} (I : Inv X pins σ H s) : interactive X.env = false := by simp [interactive, I.ok.kind]
/-- an expression whose value is dropped -/
def tDrop (te : TE) : TS := fun D σ H => te σ H fun _ H1 => D.nx σ H1
theorem ps_expr (he : PE X e te) (hs : swapsWith e none pos.line X.env = pure false := by rfl) : PS X (.Expr e pos) (tDrop te) := by
  intro pins s σ H D I h
  exact wpAny_Expr_any (thn (he pins s σ H _ I h) fun v s1 ⟨x, H1, I1, r1, q1⟩ => ⟨σ, H1, I1, q1⟩) I.quiet hs
def tRet (te : TE) : TS := fun D σ H => te σ H D.rt
theorem ps_ret (he : PE X e te) : PS X (.Return (some e) pos) (tRet te) := by
  intro pins s σ H D I h
  exact wpAny_Return_some (thn (he pins s σ H _ I h) fun v s1 ⟨x, H1, I1, r1, q1⟩ => ⟨x, σ, H1, I1, r1, q1⟩)
def tIfS (c : TT) (t u : TS) : TS := fun D σ H => c σ H fun b H1 => if b = true then t D σ H1 else u D σ H1
theorem ps_if {c : Expr} {a b : List Stmt} {tc : TT} (hc : PT X c tc) (ha : PSs X a t) (hb : PSs X b u) : PS X (.If c a b pos) (tIfS tc t u) := by
  intro pins s σ H D I h
  refine wpAny_If (thn (hc pins s σ H _ I h) fun d s1 ⟨H1, I1, q1⟩ => ?_)
  cases d with
  | true => exact ha pins s1 σ H1 D I1 q1
  | false => exact hb pins s1 σ H1 D I1 q1
/-- code that the proof never comes to -/
def tNever : TS := fun _ _ _ => False
theorem ps_never : PS X st tNever := fun _ _ _ _ _ _ h => h.elim
theorem pss_never {sts : List Stmt} : PSs X sts tNever := fun _ _ _ _ _ _ h => h.elim
end
/-! ### targets -/
abbrev TG := V → St → Hp → (St → Hp → Prop) → Prop
abbrev TGs := List V → St → Hp → (St → Hp → Prop) → Prop
def PG (X : Cx) (target : Expr) (t : TG) : Prop :=
  ∀ (pins : List (Addr × Obj)) (s : Shared) (σ : St) (H : Hp) (v : V) (u : Value) (Q : St → Hp → Prop), Inv X pins σ H s → RelV v u → t v σ H Q →
    wpAny (model X.prog X.w) X.A (assign target X.env u) (fun _ s' => ∃ σ' H', Inv X pins σ' H' s' ∧ Q σ' H') X.xe s
/-- several targets, one after another -/
def PGs (X : Cx) (ts : List Expr) (t : TGs) : Prop :=
  ∀ (pins : List (Addr × Obj)) (s : Shared) (σ : St) (H : Hp) (vs : List V) (us : List Value) (Q : St → Hp → Prop), Inv X pins σ H s → Vals vs us → t vs σ H Q →
    wpAny (model X.prog X.w) X.A (assignInOrder ((assignEach ts X.env).map (·.2)) us) (fun _ s' => ∃ σ' H', Inv X pins σ' H' s' ∧ Q σ' H') X.xe s
/-- o[i] = v, by values -/
abbrev TSet := V → V → V → Hp → (Hp → Prop) → Prop
def PSet (X : Cx) (t : TSet) : Prop :=
  ∀ (pins : List (Addr × Obj)) (s : Shared) (σ : St) (H : Hp) (o i v : V) (ov iv u : Value) (Q : Hp → Prop), Inv X pins σ H s → RelV o ov → RelV i iv → RelV v u → t o i v H Q →
    wpAny (model X.prog X.w) X.A (setItem ov iv u) (fun _ s' => ∃ H', Inv X pins σ H' s' ∧ Q H') X.xe s
/-- a op= b, by values -/
abbrev TIp := V → V → Hp → VK → Prop
def PIp (X : Cx) (op : Operator) (t : TIp) : Prop :=
  ∀ (pins : List (Addr × Obj)) (s : Shared) (σ : St) (H : Hp) (x y : V) (v u : Value) (Q : VK), Inv X pins σ H s → RelV x v → RelV y u → t x y H Q →
    wpAny (model X.prog X.w) X.A (inplaceOp op v u) (EP X pins σ Q) X.xe s
section
variable {X : Cx} {pos : Pos}
def gName (i : Nat) : TG := fun v σ H Q => Q (σ.set i (some v)) H
theorem pg_name {i : Nat} {x : Str} (hN : X.N.Nodup) (hi : X.N[i]? = some x) (hx : Loc X.env.scope x) (hf : X.fn x = true ∨ X.env.scope.names.lookup x = some .local := by first | exact .inl rfl | exact .inr rfl | assumption) : PG X (.Name x pos) (gName i) := by
  intro pins s σ H v u Q I r h
  exact wpAny_assign_Name (store_ok I hN hi hx r (fun s' I' => ⟨_, H, I', h⟩) hf)
def gNil : TGs := fun vs σ H Q => vs = [] ∧ Q σ H
def gCons (t : TG) (u : TGs) : TGs := fun vs σ H Q => ∃ v r, vs = v :: r ∧ t v σ H fun σ' H' => u r σ' H' Q
theorem pgs_nil : PGs X [] gNil := by
  intro pins s σ H vs us Q I r h
  obtain ⟨e, h⟩ := h
  subst e
  cases r
  exact assignInOrder_nil ⟨σ, H, I, h⟩
theorem pgs_cons {e : Expr} {es : List Expr} {t : TG} {u : TGs} (h1 : PG X e t) (h2 : PGs X es u)
    (hs : (assignEach (e :: es) X.env).map (·.2) = assign e X.env :: (assignEach es X.env).map (·.2) := by rfl) : PGs X (e :: es) (gCons t u) := by
  intro pins s σ H vs us Q I r h
  obtain ⟨v, vr, e1, h⟩ := h
  subst e1
  cases r with
  | cons r rr =>
    rw [hs]
    refine assignInOrder_cons (thn (h1 pins s σ H _ _ _ I r h) fun _ s1 ⟨σ1, H1, I1, q1⟩ => ?_)
    exact h2 pins s1 σ1 H1 _ _ Q I1 rr q1
/-- (a, b, ..) = a tuple of that length -/
def gTup (K : PySem.W.Frag) (n : Nat) (t : TGs) : TG := fun v σ H Q => ∃ a xs, v = .ref a ∧ SqT K H a xs ∧ xs.length = n ∧ t xs σ H Q
theorem pg_tup {es : List Expr} {k : Nat} {t : TGs} {n : Nat} (hc : X.calm = true) (h : PGs X es t)
    (hn : (assignEach es X.env).length = n := by rfl) (hst : (assignEach es X.env).findIdx? (·.1) = none := by rfl) : PG X (.Tuple es k pos) (gTup X.K n t) := by
  intro pins s σ H v u Q I r hw
  obtain ⟨a, xs, e1, hq, hl, hw⟩ := hw
  subst e1
  cases r
  obtain ⟨its, rv, ht, hz⟩ := I.tuple hq
  refine assign_Tuple_tuple (I.ok.hd hc) ht (by simp [hn, ← hl, rv.length]) hst fun h' hx => ?_
  have I1 : Inv X pins σ H { s with heap := h' } := I.kept (t' := s.toks) fun b o e => hx b o (Nat.ne_of_lt (Heap.lt_size e)) e
  exact h pins _ σ H xs _ Q I1 (by simpa using rv) hw
/-- o[i] = .. -/
def gSub (to ti : TE) (t : TSet) : TG := fun v σ H Q => to σ H fun o H1 => ti σ H1 fun i H2 => t o i v H2 fun H3 => Q σ H3
theorem pg_sub {o i : Expr} {to ti : TE} {t : TSet} (ho : PE X o to) (hi : PE X i ti) (hs : PSet X t)
    (ha : ∀ v, assign (.Subscript o i pos) X.env v = (do
      let ov ← holding [v] (eval o X.env)
      let iv ← holding [v, ov] (eval i X.env)
      standAt pos
      holding [v, ov, iv] (setItem ov iv v)
      release [v, ov, iv] []) := by intro _; rfl) : PG X (.Subscript o i pos) (gSub to ti t) := by
  intro pins s σ H v u Q I r h
  rw [ha]
  refine wpAny_bind (wpAny_holding (thn (ho pins s σ H _ I h) fun ov s1 ⟨x, H1, I1, r1, q1⟩ => ?_))
  refine wpAny_bind (wpAny_holding (thn (hi pins s1 σ H1 _ I1 q1) fun iv s2 ⟨y, H2, I2, r2, q2⟩ => ?_))
  refine wpAny_bind (wpAny_standAt (wpAny_bind (wpAny_holding (thn (hs pins s2 σ H2 x y v ov iv u _ I2 r1 r2 r q2) fun _ s3 ⟨H3, I3, q3⟩ => ?_))))
  exact wpAny_release ⟨σ, H3, I3, q3⟩
/-- target = value -/
def tAsg (te : TE) (g : TG) : TS := fun D σ H => te σ H fun x H1 => g x σ H1 D.nx
theorem ps_asg {tg e : Expr} {te : TE} {g : TG} (he : PE X e te) (hg : PG X tg g) (hs : swapsWithSole [tg] e pos.line X.env = pure false := by rfl) (hw : swappedStores [tg] e X.env = pure none := by rfl)
    (h1 : (assignEach [tg] X.env).map (·.2) = [assign tg X.env] := by rfl) : PS X (.Assign [tg] e pos) (tAsg te g) := by
  intro pins s σ H D I h
  refine wpAny_Assign_stores (thn (he pins s σ H _ I h) fun v s1 ⟨x, H1, I1, r1, q1⟩ => ?_) hs hw
  rw [h1]
  exact thn (hg pins s1 σ H1 x v _ I1 r1 q1) fun _ s2 q => q
/-- name = value -/
theorem ps_set {i : Nat} {x : Str} {e : Expr} {te : TE} {pos' : Pos} (hN : X.N.Nodup) (hi : X.N[i]? = some x) (hx : Loc X.env.scope x) (he : PE X e te) (hs : swapsWith e (some (.Name x pos')) pos.line X.env = pure false := by rfl) (hf : X.fn x = true ∨ X.env.scope.names.lookup x = some .local := by first | exact .inl rfl | exact .inr rfl | assumption) :
    PS X (.Assign [.Name x pos'] e pos) (tAsg te (gName i)) := by
  intro pins s σ H D I h
  refine wpAny_Assign_Name (thn (he pins s σ H _ I h) fun v s1 ⟨y, H1, I1, r1, q1⟩ => ?_) hs
  exact store_ok I1 hN hi hx r1 (fun s2 I2 => ⟨_, H1, I2, q1⟩) hf
/-- a, b = x, y with plain local names: stored from the right; the pair itself is not tracked (the opening rows as in PyProof/Rows/TupAssign.lean:23) -/
def tPar (i j : Nat) (ta : TA) : TS := fun D σ H => ta σ H fun vs H1 => ∃ v w, vs = [v, w] ∧ D.nx ((σ.set i (some v)).set j (some w)) H1
theorem ps_par {i j : Nat} {x y : Str} {a b : Expr} {ta : TA} {px py pt : Pos} {kt k2 pt2} (hc : X.calm = true) (hN : X.N.Nodup) (hi : X.N[i]? = some x) (hj : X.N[j]? = some y) (hij : i ≠ j)
    (hx : X.env.scope.names.lookup x = some .local) (hy : X.env.scope.names.lookup y = some .local) (ha : PA X [a, b] ta)
    (hw : swappedStores [.Tuple [.Name x px, .Name y py] kt pt] (.Tuple [a, b] k2 pt2) X.env = pure (some [x, y]))
    (hs : swapsWithSole [.Tuple [.Name x px, .Name y py] kt pt] (.Tuple [a, b] k2 pt2) pos.line X.env = pure false := by rfl) :
    PS X (.Assign [.Tuple [.Name x px, .Name y py] kt pt] (.Tuple [a, b] k2 pt2) pos) (tPar i j ta) := by
  intro pins s σ H D I h
  rw [exec_Assign_arm]
  refine wpAny_bind (wpAny_standAt ?_)
  rw [hs]
  refine wpAny_bind (wpAny_pure ?_)
  rw [if_neg (by decide)]
  refine wpAny_bind (Tuple_ (thn (ha _ pins s σ H _ I h) fun us s1 ⟨vs, H1, I1, r1, q1⟩ => ?_))
  obtain ⟨v, w, e1, q1⟩ := q1
  subst e1
  obtain ⟨u1, u2, rfl, rv, rw'⟩ : ∃ u1 u2, us = [u1, u2] ∧ RelV v u1 ∧ RelV w u2 := by
    cases r1 with
    | cons p q =>
      cases q with
      | cons p' q' =>
        cases q'
        exact ⟨_, _, rfl, p, p'⟩
  refine wpAny_newObj_type ?_ (by show 2 ≤ sizeLine; decide)
  have I2 : Inv X pins σ H1 { s1 with heap := s1.heap.push { cls := .type "tuple", data := .seq [u1, u2].toArray } } := I1.kept (t' := s1.toks) fun b o e => Heap.get?_push_of_some _ e
  rw [hw]
  refine wpAny_bind (wpAny_pure ?_)
  show wpAny (model X.prog X.w) X.A (do rule "assign.swapped-stores"; let items ← unpackItems (.ref s1.heap.objs.size) 2 none; assignInOrder [fun v => bindName X.env y v, fun v => bindName X.env x v] items.reverse; pure Flow.next) _ _ _
  refine wpAny_bind (wpAny_rule (wpAny_bind (unpackItems_tuple (items := #[u1, u2]) (I.ok.hd hc) (IsTup.new s1.heap _) fun h' hx' => ?_)))
  have I3 := I2.kept (h' := h') (t' := s1.toks) fun b o e => hx' b o (Nat.ne_of_lt (Heap.lt_size e)) e
  show wpAny _ _ (assignInOrder [fun v => bindName X.env y v, fun v => bindName X.env x v] [u2, u1] >>= fun _ => pure Flow.next) _ _ _
  refine wpAny_bind (assignInOrder_cons (wpAny_bindName (store_ok I3 hN hj (.inl hy) rw' (fun s2 I4 => ?_) (.inr hy))))
  refine assignInOrder_cons (wpAny_bindName (store_ok I4 hN hi (.inl hx) rv (fun s3 I5 => assignInOrder_nil (wpAny_pure ?_)) (.inr hx)))
  rw [List.set_comm _ _ (Ne.symm hij)] at I5
  exact ⟨_, H1, I5, q1⟩
/-- o[i] op= e -/
def tAugS (to ti te : TE) (tget : V → V → Hp → VK → Prop) (tip : TIp) (tset : TSet) : TS := fun D σ H => to σ H fun o H1 => ti σ H1 fun i H2 => tget o i H2 fun x H3 => te σ H3 fun y H4 => tip x y H4 fun z H5 => tset o i z H5 fun H6 => D.nx σ H6
/-- o[i], by values -/
def PGet (X : Cx) (t : V → V → Hp → VK → Prop) : Prop :=
  ∀ (pins : List (Addr × Obj)) (s : Shared) (σ : St) (H : Hp) (o i : V) (ov iv : Value) (Q : VK), Inv X pins σ H s → RelV o ov → RelV i iv → t o i H Q →
    wpAny (model X.prog X.w) X.A (getItem ov iv) (EP X pins σ Q) X.xe s
theorem ps_augS {o i e : Expr} {to ti te : TE} {tget : V → V → Hp → VK → Prop} {tip : TIp} {tset : TSet} {op : Operator} {tpos : Pos} (ho : PE X o to) (hi : PE X i ti) (hg : PGet X tget) (he : PE X e te) (hp : PIp X op tip) (hs : PSet X tset)
    (ha : ∀ ov iv new, augStore i ov iv new = (do holding [new, ov, iv] (setItem ov iv new); release [new, ov, iv] []; pure .next) := by intros; rfl) : PS X (.AugAssign (.Subscript o i tpos) op e pos) (tAugS to ti te tget tip tset) := by
  intro pins s σ H D I h
  refine wpAny_AugAssign_SubscriptAny (thn (ho pins s σ H _ I h) fun ov s1 ⟨x1, H1, I1, r1, q1⟩ => ?_) ha
  refine thn (hi pins s1 σ H1 _ I1 q1) fun iv s2 ⟨x2, H2, I2, r2, q2⟩ => ?_
  refine thn (hg pins s2 σ H2 x1 x2 ov iv _ I2 r1 r2 q2) fun old s3 ⟨x3, H3, I3, r3, q3⟩ => ?_
  refine thn (he pins s3 σ H3 _ I3 q3) fun v s4 ⟨x4, H4, I4, r4, q4⟩ => ?_
  refine thn (hp pins s4 σ H4 x3 x4 old v _ I4 r3 r4 q4) fun new s5 ⟨x5, H5, I5, r5, q5⟩ => ?_
  exact thn (hs pins s5 σ H5 x1 x2 x5 ov iv new _ I5 r1 r2 r5 q5) fun _ s6 ⟨H6, I6, q6⟩ => ⟨σ, H6, I6, q6⟩
/-- ints -/
def ipI (f : Int → Int → Int) : TIp := fun x y H Q => ∃ i j, x = .int i ∧ y = .int j ∧ Q (.int (f i j)) H
theorem ip_add : PIp X .Add (ipI fun i j => i + j) := by
  intro pins s σ H x y v u Q I r1 r2 h
  obtain ⟨i, j, e1, e2, q⟩ := h
  subst e1; subst e2
  obtain ⟨t, rfl⟩ := r1
  obtain ⟨t', rfl⟩ := r2
  exact iadd_int ⟨.int _, H, I.tok _, ⟨_, rfl⟩, q⟩
end
/-! ### while -/
section
variable {X : Cx} {pos : Pos}
/-- the invariant W with its measure -/
def tWhile (c : TT) (tb : TS) : TS := fun D σ H => ∃ W : Nat → St → Hp → Prop, (∃ m, W m σ H) ∧ ∀ m σ H, W m σ H →
  c σ H fun b H1 => if b = true then ∃ N : St → Hp → Prop, (∀ σ' H', N σ' H' → ∃ m', m' < m ∧ W m' σ' H') ∧ tb { D with nx := N, ct := N, bk := D.nx } σ H1 else D.nx σ H1
theorem ps_while {c : Expr} {body : List Stmt} {tc : TT} {tb : TS} (hp : PassesOwn (model X.prog X.w) X.A X.env X.xe) (hc : PT X c tc) (hb : PSs X body tb) : PS X (.While c body [] pos) (tWhile tc tb) := by
  intro pins s σ H D I h
  obtain ⟨W, ⟨m0, w0⟩, turn⟩ := h
  refine wpAny_While (codeAny_whileLoop (fun n s' => ∃ σ' H', Inv X pins σ' H' s' ∧ W n σ' H') ?_ m0 ⟨σ, H, I, w0⟩)
  rintro n s1 ⟨σ1, H1, I1, w1⟩
  refine wpAny_passesOwn hp (thn (hc pins s1 σ1 H1 _ I1 (turn n σ1 H1 w1)) fun b s2 ⟨H2, I2, q2⟩ => ?_)
  cases b with
  | true =>
    obtain ⟨N, hN, q2⟩ := q2
    rw [if_pos rfl]
    refine wpAny_passesOwn hp (thn (hb pins s2 σ1 H2 _ I2 q2) fun f s3 q3 => ?_)
    cases f with
    | next =>
      obtain ⟨σ3, H3, I3, n3⟩ := q3
      obtain ⟨m', hm, w3⟩ := hN σ3 H3 n3
      exact ⟨m', hm, σ3, H3, I3, w3⟩
    | cont =>
      obtain ⟨σ3, H3, I3, n3⟩ := q3
      obtain ⟨m', hm, w3⟩ := hN σ3 H3 n3
      exact ⟨m', hm, σ3, H3, I3, w3⟩
    | brk => exact q3
    | ret v => exact q3
  | false =>
    rw [if_neg Bool.false_ne_true]
    exact wpAny_execs_nil ⟨σ1, H2, I2, q2⟩
end
/-! ### what a loop or a comprehension walks -/
/-- at turn i: it yields x (the heap may grow), or it stops -/
structure It where
  go : Nat → Hp → Prop
  yld : Nat → Hp → V → Hp → Prop
  stop : Nat → Hp → Prop
/-- the iterator's own objects may turn: they are not the frame's, not pinned, younger than the entry (or a comprehension's own) -/
def FpOk (X : Cx) (pins : List (Addr × Obj)) (H : Hp) (b : Addr) : Prop :=
  H b = none ∧ b ≠ X.env.locals ∧ b ∉ X.fs ∧ (b ∈ X.ex ∨ X.s_0.heap.objs.size ≤ b) ∧ (∀ x c, X.env.cells.lookup x = some c → c ≠ b) ∧ ∀ p ∈ X.pn ++ pins, p.1 ≠ b
theorem Inv.fpOk {X : Cx} {pins : List (Addr × Obj)} {σ : St} {H H' : Hp} {s : Shared} {b : Addr} (I : Inv X pins σ H s) (hb : s.heap.objs.size ≤ b) (hn : H' b = none) : FpOk X pins H' b := by
  refine ⟨hn, Nat.ne_of_gt (Nat.lt_of_lt_of_le I.lt hb), I.nofs hb, .inr (Nat.le_trans I.sz hb), fun x c e z => ?_, fun p hp z => ?_⟩
  · obtain ⟨v, q⟩ := I.cell x c e
    exact absurd (Nat.lt_of_lt_of_le q.lt (by rw [z]; exact hb)) (Nat.lt_irrefl _)
  · exact absurd (Nat.lt_of_lt_of_le (Heap.lt_size (I.pin p hp).1) (by rw [z]; exact hb)) (Nat.lt_irrefl _)
structure Turn (P : Program) (w : World) (K : PySem.W.Frag) (tg : Expr) (J : It) (fp : List Addr) (it : Addr) (tn : Nat → Heap → Prop) : Prop where
  mem : it ∈ fp
  obj : ∀ i h, tn i h → ∀ b ∈ fp, ∃ o, h.get? b = some o ∧ ∀ v, o.data ≠ .cell v
  keep : ∀ i h h', tn i h → (∀ b ∈ fp, ∀ o, h.get? b = some o → h'.get? b = some o) → tn i h'
  item : ∀ (X : Cx), X.prog = P → X.w = w → X.K = K → X.calm = true → ∀ (i : Nat) (pins : List (Addr × Obj)) (s : Shared) (σ : St) (H : Hp) (E : Value → Shared → Prop), Inv X pins σ H s → (∀ b ∈ fp, FpOk X pins H b) → tn i s.heap → J.go i H →
    wpAny (model P w) X.A (pyNext (.ref it)) (fun r s1 => ∃ u, r = some u ∧
      wpAny (model P w) X.A (letOwnedTupleGo tg (.ref it) u) (fun _ s2 => ∃ x H', Inv X pins σ H' s2 ∧ RelV x u ∧ J.yld i H x H' ∧ tn (i + 1) s2.heap ∧ ∀ b ∈ fp, H' b = none) E s1) E s
  done : ∀ (X : Cx), X.prog = P → X.w = w → X.K = K → X.calm = true → ∀ (i : Nat) (pins : List (Addr × Obj)) (s : Shared) (σ : St) (H : Hp) (E : Value → Shared → Prop), Inv X pins σ H s → (∀ b ∈ fp, FpOk X pins H b) → tn i s.heap → J.stop i H →
    wpAny (model P w) X.A (pyNext (.ref it)) (fun r s1 => r = none ∧ Inv X pins σ H s1) E s
  self : ∀ (A : Around) (i : Nat) (s : Shared) (Q : Value → Shared → Prop) (E : Value → Shared → Prop), tn i s.heap → Q (.ref it) s → wpAny (model P w) A (pyIter (.ref it)) Q E s
abbrev TI := St → Hp → (It → Hp → Prop) → Prop
/-- an iterator has come -/
def PIE (X : Cx) (pins : List (Addr × Obj)) (σ : St) (tg : Expr) (R : It → Hp → Prop) (itv : Value) (s2 : Shared) : Prop :=
  ∃ (it : Addr) (fp : List Addr) (tn : Nat → Heap → Prop) (J : It) (H' : Hp), itv = .ref it ∧ Inv X pins σ H' s2 ∧ Turn X.prog X.w X.K tg J fp it tn ∧ tn 0 s2.heap ∧ (∀ b ∈ fp, FpOk X pins H' b) ∧ R J H'
def PI (X : Cx) (tg iter : Expr) (wi : TI) : Prop :=
  ∀ (pins : List (Addr × Obj)) (s : Shared) (σ : St) (H : Hp) (R : It → Hp → Prop), Inv X pins σ H s → wi σ H R →
    wpAny (model X.prog X.w) X.A (eval iter X.env) (fun v s1 => wpAny (model X.prog X.w) X.A (pyIter v) (PIE X pins σ tg R) X.xe s1) X.xe s
/-- the step ahead of the store is nothing for an iterator that keeps no tuple -/
theorem go_of {M : Model} {A : Around} {E : Value → Shared → Prop} {s : Shared} {tg : Expr} {it : Addr} {u : Value} {o : Obj} {n : String} {vs : Array Value} {Q : Unit → Shared → Prop} (ho : s.heap.get? it = some o) (hc : o.cls = .type n) (hd : o.data = .fields vs)
    (hn : ["enumerate", "zip", "dict_itemiterator", "dict_reverseitemiterator", "odict_iterator", "itertools.zip_longest", "itertools.pairwise"].contains n = false) (hQ : Q () s) : wpAny M A (letOwnedTupleGo tg (.ref it) u) Q E s := by
  unfold letOwnedTupleGo
  cases tg <;> first
    | exact wpAny_pure hQ
    | (cases u <;> first
        | exact wpAny_pure hQ
        | (refine wpAny_bind (wpAny_load ho ?_)
           rw [hc, hd]
           show wpAny M A (if (["enumerate", "zip", "dict_itemiterator", "dict_reverseitemiterator", "odict_iterator", "itertools.zip_longest", "itertools.pairwise"].contains n && vs[0]? == some (rawInt _)) = true then _ else _) Q E s
           rw [if_neg (by intro h; rw [hn, Bool.false_and] at h; cases h)]
           exact wpAny_pure hQ))
/-- the list at a, as it stands at each turn (a loop may append to it) -/
def Itl (K : PySem.W.Frag) (a : Addr) : It :=
  ⟨fun i H => ∃ xs x, SqL K H a xs ∧ xs[i]? = some x, fun i H x H' => H' = H ∧ ∀ xs, SqL K H a xs → xs[i]? = some x, fun i H => ∃ xs, SqL K H a xs ∧ xs.length ≤ i⟩
/-- lo, lo + 1, .. (n of them) -/
def Itr (lo : Int) (n : Nat) : It := ⟨fun i _ => i < n, fun i H x H' => H' = H ∧ x = .int (lo + i), fun i _ => n ≤ i⟩
theorem turn_list {P : Program} {w : World} {K : PySem.W.Frag} {tg : Expr} (a it : Addr) : Turn P w K tg (Itl K a) [it] it (fun i h => h.IsListIter it a i) where
  mem := by simp
  obj := fun i h st b hb => by
    have e : b = it := by simpa using hb
    subst e
    obtain ⟨o, e, c, d⟩ := st
    exact ⟨o, e, fun v z => by rw [d] at z; cases z⟩
  keep := fun i h h' st k => st.at fun o e => k it (by simp) o e
  item := by
    intro X hP hw hK hc i pins s σ H E I hf st hg
    subst hP hw hK
    obtain ⟨xs, x, hq, hx⟩ := hg
    obtain ⟨its, rv, p, hz⟩ := I.list hq
    obtain ⟨u, hu, ru⟩ := rv.get hx
    obtain ⟨f0, f1, f2, f3, f4, f5⟩ := hf it (by simp)
    refine wpAny_pyNext_list_item st p.isList (x := u) (by simpa using hu) fun h' st' sb => ?_
    have I1 : Inv X pins σ H { s with heap := h' } := I.turned (t' := s.toks) (fun b o hb e => (sb.2 b hb).trans e) f0 f1 f3 f4 f5
    obtain ⟨o, e, c, d⟩ := id st'
    exact ⟨u, rfl, go_of (s := { s with heap := h' }) e c d (by decide) ⟨x, H, I1, ru, ⟨rfl, fun ys hy => by rw [I.list_inj hy hq]; exact hx⟩, st', fun b hb => (hf b hb).1⟩⟩
  done := by
    intro X hP hw hK hc i pins s σ H E I hf st hg
    subst hP hw hK
    obtain ⟨xs, hq, hx⟩ := hg
    obtain ⟨its, rv, p, hz⟩ := I.list hq
    obtain ⟨f0, f1, f2, f3, f4, f5⟩ := hf it (by simp)
    have hl := rv.length
    exact wpAny_pyNext_list_end (I.ok.hd hc) st p.isList (by simp; omega) fun h' eb => ⟨rfl, I.turned (t' := s.toks) (fun b o hb e => eb b o hb e) f0 f1 f3 f4 f5⟩
  self := fun _ _ _ _ _ st h => wpAny_pyIter_listiter st h
theorem turn_range {P : Program} {w : World} {K : PySem.W.Frag} {tg : Expr} (it : Addr) (lo : Int) (n : Nat) : Turn P w K tg (Itr lo n) [it] it (fun i h => IsRangeIter h it (lo + (i : Nat) * 1) ((n : Int) - (i : Nat)) 1) where
  mem := by simp
  obj := fun i h st b hb => by
    have e : b = it := by simpa using hb
    subst e
    exact ⟨_, st, fun v z => by
      have z' : Data.fields _ = Data.cell v := z
      cases z'⟩
  keep := fun i h h' st k => k it (by simp) _ st
  item := by
    intro X hP hw hK hc i pins s σ H E I hf st hg
    subst hP hw hK
    obtain ⟨f0, f1, f2, f3, f4, f5⟩ := hf it (by simp)
    have W := Walks.range (prog := X.prog) (w := X.w) (I.ok.hd hc) it lo 1 n
    refine W.item i s _ _ hg st fun v h' tk hv st' kk => ?_
    obtain ⟨t, rfl⟩ := hv
    have I1 : Inv X pins σ H { s with heap := h', toks := tk } := I.turned (fun b o hb e => kk b o (by simpa using hb) e) f0 f1 f3 f4 f5
    refine ⟨_, rfl, go_of (s := { s with heap := h', toks := tk }) (n := "range_iterator") st' rfl rfl (by decide) ⟨.int (lo + i), H, I1, ⟨t, ?_⟩, ⟨rfl, rfl⟩, st', fun b hb => (hf b hb).1⟩⟩
    rw [Int.mul_one]
  done := by
    intro X hP hw hK hc i pins s σ H E I hf st hg
    subst hP hw hK
    obtain ⟨f0, f1, f2, f3, f4, f5⟩ := hf it (by simp)
    exact wpAny_pyNext_range_end (I.ok.hd hc) st (by have : n ≤ i := hg; omega) fun h' eb => ⟨rfl, I.turned (t' := s.toks) (fun b o hb e => eb b o hb e) f0 f1 f3 f4 f5⟩
  self := fun _ _ _ _ _ st h => wpAny_pyIter_rangeiter st h
end L2
namespace L2
open PySem PySem.Spec PyProof.Rows
section
variable {X : Cx} {tg : Expr}
def iList (K : PySem.W.Frag) (tl : TE) : TI := fun σ H R => tl σ H fun x H1 => ∃ a, x = .ref a ∧ (∃ xs, SqL K H1 a xs) ∧ R (Itl K a) H1
theorem pi_list {l : Expr} {tl : TE} (hl : PE X l tl) : PI X tg l (iList X.K tl) := by
  intro pins s σ H R I h
  refine thn (hl pins s σ H _ I h) fun v s1 ⟨x, H1, I1, r1, q1⟩ => ?_
  obtain ⟨a, e, ⟨xs, hq⟩, q⟩ := q1
  subst e
  cases r1
  obtain ⟨its, rv, p, hz⟩ := I1.list hq
  refine wpAny_pyIter_list p.isList ?_
  refine ⟨s1.heap.objs.size, [s1.heap.objs.size], _, _, H1, rfl, I1.kept (t' := s1.toks) fun b o e => Heap.get?_push_of_some _ e, turn_list a _, ⟨_, Heap.get?_push_size _ rfl, rfl, rfl⟩, fun b hb => ?_, q⟩
  have e : b = s1.heap.objs.size := by simpa using hb
  subst e
  exact I1.fpOk (Nat.le_refl _) (I1.hok.fresh (Nat.le_refl _))
/-- a range object just made, walked -/
theorem range_it {pins : List (Addr × Obj)} {σ : St} {H : Hp} {s : Shared} {R : It → Hp → Prop} {E : Value → Shared → Prop} {lo hi : Int} {t u v : Tok} {tk : Nat} (I : Inv X pins σ H s) (h1 : -(2 ^ 62) ≤ lo) (h2 : lo < 2 ^ 62) (h3 : -(2 ^ 62) ≤ hi) (h4 : hi < 2 ^ 62)
    (q : R (Itr lo (hi - lo).toNat) H) : wpAny (model X.prog X.w) X.A (pyIter (.ref s.heap.objs.size)) (PIE X pins σ tg R) E { s with heap := s.heap.push { cls := .type "range", data := .fields #[.int lo t, .int hi u, .int 1 v] }, toks := tk } := by
  refine wpAny_pyIter_range (IsRange.new ..) (small_one h1 h2 h3 h4) ?_
  have I1 : Inv X pins σ H { s with heap := s.heap.push { cls := .type "range", data := .fields #[.int lo t, .int hi u, .int 1 v] }, toks := tk } := I.kept fun b o e => Heap.get?_push_of_some _ e
  refine ⟨(s.heap.push { cls := .type "range", data := .fields #[.int lo t, .int hi u, .int 1 v] }).objs.size, [(s.heap.push { cls := .type "range", data := .fields #[.int lo t, .int hi u, .int 1 v] }).objs.size], _, _, H, rfl,
    I1.kept (t' := tk) fun b o e => Heap.get?_push_of_some _ e, turn_range _ lo (hi - lo).toNat, ?_, fun b hb => ?_, q⟩
  · have e1 : lo + ((0 : Nat) : Int) * 1 = lo := by simp
    have e2 : (((hi - lo).toNat : Nat) : Int) - ((0 : Nat) : Int) = Builtin.Range.rangeSize lo hi 1 := by rw [rangeSize_one]; split <;> omega
    show IsRangeIter _ _ (lo + ((0 : Nat) : Int) * 1) ((((hi - lo).toNat : Nat) : Int) - ((0 : Nat) : Int)) 1
    rw [e1, e2]
    exact Heap.get?_push_size _ rfl
  · have e : b = (s.heap.push { cls := .type "range", data := .fields #[.int lo t, .int hi u, .int 1 v] }).objs.size := by simpa using hb
    subst e
    exact I1.fpOk (Nat.le_refl _) (I1.hok.fresh (Nat.le_refl _))
def iRng1 (ta : TA) : TI := fun σ H R => ta σ H fun vs H1 => ∃ j : Int, vs = [.int j] ∧ -(2 ^ 62) ≤ j ∧ j < 2 ^ 62 ∧ R (Itr 0 j.toNat) H1
theorem pi_range1 {a : Expr} {ta : TA} {p pos : Pos} (hg : Gl X "range") (hm : X.mg "range" = none) (ha : PA X [a] ta) (hs : starEach [a] X.env = [(false, eval a X.env)] := by rfl) : PI X tg (.Call (.Name "range" p) [a] [] pos) (iRng1 ta) := by
  intro pins s σ H R I h
  refine Call_ (ld_blt I hg hm boot_range (PyProof.Rows.callWith_type1 (thn (ha pos pins s σ H _ I h) fun us s1 ⟨vs, H1, I1, r1, q1⟩ => ?_) hs rfl))
  obtain ⟨j, e, q1, q2, q⟩ := q1
  subst e
  cases r1 with
  | cons r rr =>
    cases rr
    obtain ⟨t, rfl⟩ := r
    exact call_range_1 (range_it I1 (by omega) (by omega) q1 q2 (by simpa using q))
/-! ### for -/
/-- W: the invariant by the turn and a measure; N: what the body is to reach -/
def tFor (wi : TI) (g : TG) (tb : TS) : TS := fun D σ H => wi σ H fun J H1 => ∃ W : Nat → Nat → St → Hp → Prop, (∃ m, W 0 m σ H1) ∧ ∀ i m σ H, W i m σ H →
  (J.stop i H ∧ D.nx σ H) ∨ (J.go i H ∧ ∃ N : St → Hp → Prop, (∀ σ' H', N σ' H' → ∃ m', m' < m ∧ W (i + 1) m' σ' H') ∧ ∀ x H', J.yld i H x H' → g x σ H' fun σ2 H2 => tb { D with nx := N, ct := N, bk := D.nx } σ2 H2)
/-- the records at fp as they stand -/
def pinsAt (fp : List Addr) (h : Heap) : List (Addr × Obj) := fp.filterMap fun b => (h.get? b).map fun o => (b, o)
theorem mem_pinsAt {fp : List Addr} {h : Heap} {b : Addr} {o : Obj} (hb : b ∈ fp) (e : h.get? b = some o) : (b, o) ∈ pinsAt fp h := List.mem_filterMap.mpr ⟨b, hb, by rw [e]; rfl⟩
theorem of_pinsAt {fp : List Addr} {h : Heap} {p : Addr × Obj} (hp : p ∈ pinsAt fp h) : p.1 ∈ fp ∧ h.get? p.1 = some p.2 := by
  obtain ⟨b, hb, e⟩ := List.mem_filterMap.mp hp
  cases q : h.get? b with
  | none => rw [q] at e; cases e
  | some o =>
    rw [q] at e
    have e' : (b, o) = p := Option.some.inj e
    subst e'
    exact ⟨hb, q⟩
theorem Inv.pinned {pins : List (Addr × Obj)} {σ : St} {H : Hp} {s : Shared} {fp : List Addr} (I : Inv X pins σ H s) (hf : ∀ b ∈ fp, FpOk X pins H b) (ho : ∀ b ∈ fp, ∃ o, s.heap.get? b = some o ∧ ∀ v, o.data ≠ .cell v) : Inv X (pins ++ pinsAt fp s.heap) σ H s :=
  I.pins_of fun p hp => (List.mem_append.mp hp).elim (fun z => I.pin p (List.mem_append_right _ z)) fun z => by
    obtain ⟨hb, e⟩ := of_pinsAt z
    obtain ⟨f0, f1, f2, _⟩ := hf p.1 hb
    obtain ⟨o, e', d⟩ := ho p.1 hb
    rw [e] at e'; cases e'
    exact ⟨e, f0, f1, f2, d⟩
theorem Inv.unpinned {pins pl : List (Addr × Obj)} {σ : St} {H : Hp} {s : Shared} (I : Inv X (pins ++ pl) σ H s) : Inv X pins σ H s := I.pins_of fun p hp => I.pin p (List.mem_append_right _ (List.mem_append_left _ hp))
theorem ps_for {iter : Expr} {body : List Stmt} {wi : TI} {g : TG} {tb : TS} {pos : Pos} (hp : PassesOwn (model X.prog X.w) X.A X.env X.xe) (hc : X.calm = true) (hi : PI X tg iter wi) (hg : PG X tg g) (hb : PSs X body tb)
    (hs : ∀ x, foldedSetIterable iter X.env x = pure x := by intro _; rfl) : PS X (.For tg iter body [] pos) (tFor wi g tb) := by
  intro pins s σ H D I h
  refine wpAny_For (thn (hi pins s σ H _ I h) fun v s1 h1 => thn h1 fun itv s2 h2 => ?_) hs
  obtain ⟨it, fp, tn, J, H2, e, I2, T, st2, f2, W, ⟨m0, w0⟩, turn⟩ := h2
  subst e
  -- what stays true of the iterator's objects through the loop
  have stat : ∀ {H' : Hp}, (∀ b ∈ fp, H' b = none) → ∀ b ∈ fp, FpOk X pins H' b := fun hn b hb => ⟨hn b hb, (f2 b hb).2⟩
  refine codeAny_forLoop_any (fun n s' => ∃ i σ' H', Inv X pins σ' H' s' ∧ tn i s'.heap ∧ (∀ b ∈ fp, H' b = none) ∧ W i n σ' H') ?_ m0 ⟨0, σ, H2, I2, st2, fun b hb => (f2 b hb).1, w0⟩
  rintro n s3 ⟨i, σ3, H3, I3, st3, fr3, w3⟩
  rcases turn i n σ3 H3 w3 with ⟨stop, qn⟩ | ⟨go, N, hN, step⟩
  · refine wpAny_passesOwn hp (thn (T.done X rfl rfl rfl hc i pins s3 σ3 H3 X.xe I3 (stat fr3) st3 stop) fun r s4 ⟨hr, I4⟩ => ?_)
    subst hr
    exact wpAny_execs_nil ⟨σ3, H3, I4, qn⟩
  · refine wpAny_passesOwn hp (thn (T.item X rfl rfl rfl hc i pins s3 σ3 H3 X.xe I3 (stat fr3) st3 go) fun r s4 ⟨u, hr, h4⟩ => ?_)
    subst hr
    refine wpAny_passesOwn hp (thn h4 fun _ s5 ⟨x, H5, I5, r5, y5, st5, fr5⟩ => ?_)
    have I5' := I5.pinned (stat fr5) (T.obj _ _ st5)
    refine wpAny_passesOwn hp (thn (hg _ s5 σ3 H5 x u _ I5' r5 (step x H5 y5)) fun _ s6 ⟨σ6, H6, I6, q6⟩ => ?_)
    refine wpAny_passesOwn hp (thn (hb _ s6 σ6 H6 _ I6 q6) fun f s7 q7 => ?_)
    have again : ∀ {σ7 : St} {H7 : Hp}, Inv X (pins ++ pinsAt fp s5.heap) σ7 H7 s7 → N σ7 H7 → ∃ m, m < n ∧ ∃ i σ' H', Inv X pins σ' H' s7 ∧ tn i s7.heap ∧ (∀ b ∈ fp, H' b = none) ∧ W i m σ' H' := fun {σ7 H7} I7 n7 => by
      obtain ⟨m', hm, w7⟩ := hN σ7 H7 n7
      refine ⟨m', hm, i + 1, σ7, H7, I7.unpinned, T.keep _ _ _ st5 fun b hb o e => (I7.pin (b, o) (List.mem_append_right _ (List.mem_append_right _ (mem_pinsAt hb e)))).1, fun b hb => ?_, w7⟩
      obtain ⟨o, e, d⟩ := T.obj _ _ st5 b hb
      exact (I7.pin (b, o) (List.mem_append_right _ (List.mem_append_right _ (mem_pinsAt hb e)))).2.1
    cases f with
    | next => obtain ⟨σ7, H7, I7, n7⟩ := q7; exact again I7 n7
    | cont => obtain ⟨σ7, H7, I7, n7⟩ := q7; exact again I7 n7
    | brk => obtain ⟨σ7, H7, I7, q7⟩ := q7; exact ⟨σ7, H7, I7.unpinned, q7⟩
    | ret v => obtain ⟨x7, σ7, H7, I7, r7, q7⟩ := q7; exact ⟨x7, σ7, H7, I7.unpinned, r7, q7⟩
end
/-! ### the forms one uses -/
end L2
namespace L2
open PySem PySem.Spec PyProof.Rows
abbrev R2 := V → V → Hp → VK → Prop
/-- a two-place operation on values: f is binaryOp op, inplaceOp op or compareOp op -/
def OpR (X : Cx) (f : Value → Value → Sem Value) (r : R2) : Prop :=
  ∀ (pins : List (Addr × Obj)) (s : Shared) (σ : St) (H : Hp) (x y : V) (v u : Value) (Q : VK), Inv X pins σ H s → RelV x v → RelV y u → r x y H Q →
    wpAny (model X.prog X.w) X.A (f v u) (EP X pins σ Q) X.xe s
/-- a one-place operation -/
def UnR (X : Cx) (f : Value → Sem Value) (r : V → Hp → VK → Prop) : Prop :=
  ∀ (pins : List (Addr × Obj)) (s : Shared) (σ : St) (H : Hp) (x : V) (v : Value) (Q : VK), Inv X pins σ H s → RelV x v → r x H Q →
    wpAny (model X.prog X.w) X.A (f v) (EP X pins σ Q) X.xe s
/-- a call of a value that is known (a builtin, a type) with values -/
def CallR (X : Cx) (f : Value) (r : List V → Hp → VK → Prop) : Prop :=
  ∀ (pins : List (Addr × Obj)) (s : Shared) (σ : St) (H : Hp) (xs : List V) (us : List Value) (Q : VK), Inv X pins σ H s → Vals xs us → r xs H Q →
    wpAny (model X.prog X.w) X.A (call f us) (EP X pins σ Q) X.xe s
/-- a value's truth -/
def TruR (X : Cx) (r : V → Hp → (Bool → Hp → Prop) → Prop) : Prop :=
  ∀ (pins : List (Addr × Obj)) (s : Shared) (σ : St) (H : Hp) (x : V) (v : Value) (Q : Bool → Hp → Prop), Inv X pins σ H s → RelV x v → r x H Q →
    wpAny (model X.prog X.w) X.A (truthy v) (TP X pins σ Q) X.xe s
def tOp (r : R2) (ta tb : TE) : TE := fun σ H Q => ta σ H fun x H1 => tb σ H1 fun y H2 => r x y H2 Q
def tUn (r : V → Hp → VK → Prop) (ta : TE) : TE := fun σ H Q => ta σ H fun x H1 => r x H1 Q
/-- ints in, under C, and a value out -/
def rI (C : Int → Int → Prop) (g : Int → Int → V) : R2 := fun x y H Q => ∃ i j, x = .int i ∧ y = .int j ∧ C i j ∧ Q (g i j) H
def rI0 (g : Int → Int → V) : R2 := fun x y H Q => ∃ i j, x = .int i ∧ y = .int j ∧ Q (g i j) H
def rU (g : Int → V) : V → Hp → VK → Prop := fun x H Q => ∃ i, x = .int i ∧ Q (g i) H
section
variable {X : Cx} {a b c : Expr} {ta tb tc : TE} {pos : Pos}
theorem binT (ha : PE X a ta) (hb : PE X b tb) {pins : List (Addr × Obj)} {s : Shared} {σ : St} {H : Hp} {R : V → V → Hp → Prop} (I : Inv X pins σ H s)
    (h : ta σ H fun x H1 => tb σ H1 fun y H2 => R x y H2) {Q : Value → Shared → Prop} {f : Value → Value → Sem Value}
    (hf : ∀ v u s2 x y H2, Inv X pins σ H2 s2 → RelV x v → RelV y u → R x y H2 → wpAny (model X.prog X.w) X.A (f v u) Q X.xe s2) :
    wpAny (model X.prog X.w) X.A (eval a X.env) (fun v s₁ => wpAny (model X.prog X.w) X.A (eval b X.env) (fun u s₂ => wpAny (model X.prog X.w) X.A (f v u) Q X.xe s₂) X.xe s₁) X.xe s := by
  refine thn (ha pins s σ H _ I h) fun v s1 ⟨x, H1, I1, r1, q1⟩ => ?_
  refine thn (hb pins s1 σ H1 _ I1 q1) fun u s2 ⟨y, H2, I2, r2, q2⟩ => ?_
  exact hf v u s2 x y H2 I2 r1 r2 q2
theorem pe_op {op : Operator} {r : R2} (ho : OpR X (binaryOp op) r) (ha : PE X a ta) (hb : PE X b tb) : PE X (.BinOp a op b pos) (tOp r ta tb) := by
  intro pins s σ H Q I h
  exact wpAny_BinOp (binT ha hb I h fun v u s2 x y H2 I2 rx ry q => ho pins s2 σ H2 x y v u Q I2 rx ry q)
theorem pe_un {op : UnaryOp} {r : V → Hp → VK → Prop} (ho : UnR X (unaryOp op) r) (ha : PE X a ta) : PE X (.UnaryOp op a pos) (tUn r ta) := by
  intro pins s σ H Q I h
  exact UnaryOp_ (thn (ha pins s σ H _ I h) fun v s1 ⟨x, H1, I1, r1, q1⟩ => ho pins s1 σ H1 x v Q I1 r1 q1)
/-! ### ints -/
theorem opI {f : Value → Value → Sem Value} {C : Int → Int → Prop} {g : Int → Int → Int}
    (rule : ∀ (i j : Int) (t u : Tok) (s : Shared) (Q : Value → Shared → Prop) (E : Value → Shared → Prop), C i j → Q (.int (g i j) s.toks) { s with toks := s.toks + 1 } → wpAny (model X.prog X.w) X.A (f (.int i t) (.int j u)) Q E s) :
    OpR X f (rI C fun i j => .int (g i j)) := by
  intro pins s σ H x y v u Q I rx ry h
  obtain ⟨i, j, rfl, rfl, hc, q⟩ := h
  obtain ⟨t, rfl⟩ := rx
  obtain ⟨t', rfl⟩ := ry
  exact rule i j t t' s _ _ hc ⟨.int (g i j), H, I.tok _, ⟨_, rfl⟩, q⟩
theorem opI0 {f : Value → Value → Sem Value} {g : Int → Int → Int}
    (rule : ∀ (i j : Int) (t u : Tok) (s : Shared) (Q : Value → Shared → Prop) (E : Value → Shared → Prop), Q (.int (g i j) s.toks) { s with toks := s.toks + 1 } → wpAny (model X.prog X.w) X.A (f (.int i t) (.int j u)) Q E s) :
    OpR X f (rI0 fun i j => .int (g i j)) := by
  intro pins s σ H x y v u Q I rx ry h
  obtain ⟨i, j, rfl, rfl, q⟩ := h
  obtain ⟨t, rfl⟩ := rx
  obtain ⟨t', rfl⟩ := ry
  exact rule i j t t' s _ _ ⟨.int (g i j), H, I.tok _, ⟨_, rfl⟩, q⟩
theorem opB0 {f : Value → Value → Sem Value} {g : Int → Int → Bool}
    (rule : ∀ (i j : Int) (t u : Tok) (s : Shared) (Q : Value → Shared → Prop) (E : Value → Shared → Prop), Q (.bool (g i j)) s → wpAny (model X.prog X.w) X.A (f (.int i t) (.int j u)) Q E s) :
    OpR X f (rI0 fun i j => .bl (g i j)) := by
  intro pins s σ H x y v u Q I rx ry h
  obtain ⟨i, j, rfl, rfl, q⟩ := h
  obtain ⟨t, rfl⟩ := rx
  obtain ⟨t', rfl⟩ := ry
  exact rule i j t t' s _ _ ⟨.bl (g i j), H, I, rfl, q⟩
def CPow (i j : Int) : Prop := 0 ≤ j ∧ j ≤ 1000000 ∧ i.natAbs < 2 ^ 64
def CMul (i j : Int) : Prop := (-(2 ^ 64) < i ∧ i < 2 ^ 64) ∨ (-(2 ^ 64) < j ∧ j < 2 ^ 64)
theorem CMul.ok {i j : Int} (h : CMul i j) : IntMulOk i j := by
  rcases h with ⟨h1, h2⟩ | ⟨h1, h2⟩
  · exact .of_left (intBits_le_64 h1 h2)
  · exact .of_right (intBits_le_64 h1 h2)
theorem op_add : OpR X (binaryOp .Add) (rI0 fun i j => .int (i + j)) := opI0 fun _ _ _ _ _ _ _ q => add_int q
theorem op_sub : OpR X (binaryOp .Sub) (rI0 fun i j => .int (i - j)) := opI0 fun _ _ _ _ _ _ _ q => sub_int q
/-- % by a positive divisor of any size -/
theorem op_mod : OpR X (binaryOp .Mod) (rI (fun _ j => 0 < j) fun i j => .int (i % j)) := opI fun i j _ _ _ _ _ hc q => by
  have h1 : (0 : Int) < j := hc
  exact mod_int' (by omega) (by rw [Int.fmod_eq_emod_of_nonneg i (by omega)]; exact q)
theorem op_pow : OpR X (binaryOp .Pow) (rI CPow fun i j => .int (i ^ j.toNat)) := opI fun _ _ _ _ _ _ _ hc q => pow_int_small hc.1 hc.2.1 hc.2.2 q
theorem unI {f : Value → Sem Value} {g : Int → Int}
    (rule : ∀ (i : Int) (t : Tok) (s : Shared) (Q : Value → Shared → Prop) (E : Value → Shared → Prop), Q (.int (g i) s.toks) { s with toks := s.toks + 1 } → wpAny (model X.prog X.w) X.A (f (.int i t)) Q E s) :
    UnR X f (rU fun i => .int (g i)) := by
  intro pins s σ H x v Q I rx h
  obtain ⟨i, rfl, q⟩ := h
  obtain ⟨t, rfl⟩ := rx
  exact rule i t s _ _ ⟨.int (g i), H, I.tok _, ⟨_, rfl⟩, q⟩
theorem un_neg : UnR X (unaryOp .USub) (rU fun i => .int (-i)) := unI fun _ _ _ _ _ q => neg_int q
/-! ### bools among ints: n += (a < b) -/
end
/-! ### comparisons -/
section
variable {X : Cx} {a b c : Expr} {ta tb tc : TE} {pos : Pos}
theorem op_le : OpR X (compareOp .LtE) (rI0 fun i j => .bl (decide (i ≤ j))) := opB0 fun _ _ _ _ _ _ _ q => le_int q
theorem op_gt : OpR X (compareOp .Gt) (rI0 fun i j => .bl (decide (j < i))) := opB0 fun _ _ _ _ _ _ _ q => gt_int q
theorem op_ge : OpR X (compareOp .GtE) (rI0 fun i j => .bl (decide (j ≤ i))) := opB0 fun _ _ _ _ _ _ _ q => ge_int q
/-- two rules for one operation: by cases -/
theorem OpR.or {f : Value → Value → Sem Value} {r r' : R2} (h : OpR X f r) (h' : OpR X f r') : OpR X f (fun x y H Q => r x y H Q ∨ r' x y H Q) := by
  intro pins s σ H x y v u Q I rx ry q
  rcases q with q | q
  · exact h pins s σ H x y v u Q I rx ry q
  · exact h' pins s σ H x y v u Q I rx ry q
theorem nomark (b : Expr) {op : CmpOp} (h : op ≠ .In := by decide) (h2 : op ≠ .NotIn := by decide) : behindInMarks op b = false := by
  have e1 : (op == CmpOp.In) = false := by cases op <;> first | rfl | exact absurd rfl h
  have e2 : (op == CmpOp.NotIn) = false := by cases op <;> first | rfl | exact absurd rfl h2
  cases b <;> simp [behindInMarks, e1, e2]
/-- a comparison as a value; hm: nomark b, or (for in, not in) by with_unfolding_all rfl -/
theorem pe_cmpR {op : CmpOp} {r : R2} (ho : OpR X (compareOp op) r) (ha : PE X a ta) (hb : PE X b tb) (hm : behindInMarks op b = false) : PE X (.Compare a [op] [b] pos) (tOp r ta tb) := by
  intro pins s σ H Q I h
  exact wpAny_Compare1 (binT ha hb I h fun v u s2 x y H2 I2 rx ry q => ho pins s2 σ H2 x y v u Q I2 rx ry q) hm
/-- a reading of a value as a test -/
def tTest (t : TE) : TT := fun σ H Q => t σ H fun x H' => ∃ k, x = .bl k ∧ Q k H'
theorem pt_cmpR {op : CmpOp} {r : R2} (ho : OpR X (compareOp op) r) (ha : PE X a ta) (hb : PE X b tb) (hm : behindInMarks op b = false) : PT X (.Compare a [op] [b] pos) (tTest (tOp r ta tb)) := by
  intro pins s σ H Q I h
  refine wpAny_isTrue_Compare1 (thn (ha pins s σ H _ I h) fun v s1 ⟨x, H1, I1, r1, q1⟩ => thn (hb pins s1 σ H1 _ I1 q1) fun u s2 ⟨y, H2, I2, r2, q2⟩ =>
    thn (ho pins s2 σ H2 x y v u _ I2 r1 r2 q2) fun c s3 ⟨z, H3, I3, r3, k, e, q3⟩ => ?_) hm
  subst e
  cases r3
  exact wpAny_truthy_bool ⟨H3, I3, q3⟩
/-- a op1 b op2 c -/
def tChain (r r' : R2) (ta tb tc : TE) : TE := fun σ H Q => ta σ H fun x H1 => tb σ H1 fun y H2 => r x y H2 fun z H3 => ∃ k, z = .bl k ∧
  (if k = true then tc σ H3 fun w' H4 => r' y w' H4 Q else Q (.bl false) H3)
theorem pe_chain {op op' : CmpOp} {r r' : R2} (ho : OpR X (compareOp op) r) (ho' : OpR X (compareOp op') r') (ha : PE X a ta) (hb : PE X b tb) (hc : PE X c tc)
    (hm : lastMarks [op, op'] [b, c] = false := by with_unfolding_all rfl) : PE X (.Compare a [op, op'] [b, c] pos) (tChain r r' ta tb tc) := by
  intro pins s σ H Q I h
  refine Compare_chain (thn (ha pins s σ H _ I h) fun v s1 ⟨x, H1, I1, r1, q1⟩ => chain_link (thn (hb pins s1 σ H1 _ I1 q1) fun u s2 ⟨y, H2, I2, r2, q2⟩ =>
    thn (ho pins s2 σ H2 x y v u _ I2 r1 r2 q2) fun d s3 ⟨z, H3, I3, r3, k, e, q3⟩ => ?_)) hm
  subst e
  cases r3
  refine wpAny_truthy_bool ?_
  cases k with
  | false => exact ite_ff ⟨.bl false, H3, I3, rfl, q3⟩
  | true => exact ite_tt (chain_last (thn (hc pins s3 σ H3 _ I3 q3) fun w' s4 ⟨z', H4, I4, r4, q4⟩ => ho' pins s4 σ H4 y z' u w' Q I4 r2 r4 q4))
theorem pt_chain {op op' : CmpOp} {r r' : R2} (ho : OpR X (compareOp op) r) (ho' : OpR X (compareOp op') r') (ha : PE X a ta) (hb : PE X b tb) (hc : PE X c tc)
    (hm : lastMarks [op, op'] [b, c] = false := by with_unfolding_all rfl) : PT X (.Compare a [op, op'] [b, c] pos) (tTest (tChain r r' ta tb tc)) := by
  intro pins s σ H Q I h
  refine isTrue_chain (thn (ha pins s σ H _ I h) fun v s1 ⟨x, H1, I1, r1, q1⟩ => test_link (thn (hb pins s1 σ H1 _ I1 q1) fun u s2 ⟨y, H2, I2, r2, q2⟩ =>
    thn (ho pins s2 σ H2 x y v u _ I2 r1 r2 q2) fun d s3 ⟨z, H3, I3, r3, k, e, q3⟩ => ?_)) hm
  subst e
  cases r3
  refine wpAny_truthy_bool ?_
  cases k with
  | false =>
    obtain ⟨k', e', q'⟩ := q3
    cases e'
    exact ite_ff ⟨H3, I3, q'⟩
  | true =>
    refine ite_tt (test_last (thn (hc pins s3 σ H3 _ I3 q3) fun w' s4 ⟨z', H4, I4, r4, q4⟩ => thn (ho' pins s4 σ H4 y z' u w' _ I4 r2 r4 q4) fun d' s5 ⟨z2, H5, I5, r5, k2, e2, q5⟩ => ?_))
    subst e2
    cases r5
    exact wpAny_truthy_bool ⟨H5, I5, q5⟩
/-! ### truth -/
/-- a value's truth by the abstract heap -/
def TruV (K : PySem.W.Frag) (x : V) (H : Hp) (k : Bool) : Prop :=
  match x with
  | .non => k = false
  | .bl b => k = b
  | .int i => k = (i != 0)
  | .str y => y.length ≤ sizeLine ∧ k = ((y.length : Int) != 0)
  | .byt y => y.size ≤ sizeLine ∧ k = ((y.size : Int) != 0)
  | .ref p => (∃ xs, SqL K H p xs ∧ k = !xs.isEmpty) ∨ (∃ xs, SqT K H p xs ∧ k = !xs.isEmpty) ∨ ∃ kvs, H p = some (.dK kvs) ∧ k = !kvs.isEmpty
  | _ => False
theorem isEmpty_kv {κ : Type} {kvs : List (κ × V)} {vs : List (κ × Value)} (r : KV kvs vs) : (!vs.isEmpty) = !kvs.isEmpty := by
  cases r <;> rfl
theorem isEmpty_of {xs : List V} {its : List Value} (r : Vals xs its) : (!its.toArray.isEmpty) = !xs.isEmpty := by
  cases r <;> simp
theorem line63 : (sizeLine : Nat) < 2 ^ 63 := by rw [sizeLine_eq]; decide
theorem tru_ok : TruR X (fun x H Q => ∃ k, TruV X.K x H k ∧ Q k H) := by
  intro pins s σ H x v Q I rx h
  obtain ⟨k, e, q⟩ := h
  have hl := line63
  have hs : sizeLine = 16777216 := sizeLine_eq
  cases x with
  | non =>
    cases rx
    have e' : k = false := e
    subst e'
    exact truthy_none ⟨H, I, q⟩
  | bl b =>
    cases rx
    have e' : k = b := e
    subst e'
    exact wpAny_truthy_bool ⟨H, I, q⟩
  | int i =>
    obtain ⟨t, rfl⟩ := rx
    have e' : k = (i != 0) := e
    subst e'
    exact PySem.P.truthy_int ⟨H, I, q⟩
  | str y =>
    obtain ⟨t, rfl⟩ := rx
    obtain ⟨hy, e'⟩ : y.length ≤ sizeLine ∧ k = ((y.length : Int) != 0) := e
    subst e'
    exact PySem.P.truthy_str (by omega) ⟨H, I.tok _, q⟩
  | byt y =>
    obtain ⟨t, rfl⟩ := rx
    obtain ⟨hy, e'⟩ : y.size ≤ sizeLine ∧ k = ((y.size : Int) != 0) := e
    subst e'
    exact PySem.W.truthy_bytes (by omega) ⟨H, I.tok _, q⟩
  | ref p =>
    cases rx
    have e' : (∃ xs, SqL X.K H p xs ∧ k = !xs.isEmpty) ∨ (∃ xs, SqT X.K H p xs ∧ k = !xs.isEmpty) ∨ ∃ kvs, H p = some (.dK kvs) ∧ k = !kvs.isEmpty := e
    rcases e' with ⟨xs, hx, e'⟩ | ⟨xs, hx, e'⟩ | ⟨kvs, hx, e'⟩
    · subst e'
      obtain ⟨its, r, pl, hz⟩ := I.list hx
      have hlen := r.length
      exact wpAny_truthy_list pl.isList (by simp only [List.size_toArray]; omega) ⟨H, I.tok _, by rw [isEmpty_of r]; exact q⟩
    · subst e'
      obtain ⟨its, r, pl, hz⟩ := I.tuple hx
      have hlen := r.length
      exact truthy_tuple pl (by simp only [List.size_toArray]; omega) ⟨H, I.tok _, by rw [isEmpty_of r]; exact q⟩
    · subst e'
      obtain ⟨hz, hS, vs, r, m⟩ : kvs.length ≤ sizeLine ∧ (p == sysModules) = false ∧ ∃ vs, KV kvs vs ∧ s.heap.DictOf (mixKind X.prog X.w) p vs := I.hok p _ hx
      have hlen : kvs.length = vs.length := Paired.length r
      exact wpAny_truthy_dict hS m (by omega) ⟨H, I.tok _, by rw [isEmpty_kv r]; exact q⟩
  | _ => exact (show False from e).elim
/-- any expression whose test is its value's truth (a name, a call, a subscript, a field ..: he by fun _ => rfl) -/
theorem pt_truth (ha : PE X a ta) (he : ∀ whole, isTrue a X.env whole = (do let v ← whole; standAt a.pos; holding [v] (truthy v))) :
    PT X a (fun σ H Q => ta σ H fun x H' => ∃ k, TruV X.K x H' k ∧ Q k H') := by
  intro pins s σ H Q I h
  exact isTrue_plain (thn (ha pins s σ H _ I h) fun v s1 ⟨x, H1, I1, r1, q1⟩ => tru_ok pins s1 σ H1 x v Q I1 r1 q1) (he _)
/-! ### strs and bytes -/
/-! ### scalar builtins, by CallR -/
theorem vals1 {x : V} {us : List Value} (r : Vals [x] us) : ∃ u, us = [u] ∧ RelV x u := by
  cases r with
  | cons r1 r2 => cases r2; exact ⟨_, rfl, r1⟩
theorem call_abs : CallR X (.builtin "abs") (fun xs H Q => ∃ i, xs = [.int i] ∧ Q (.int (if i < 0 then -i else i)) H) := by
  intro pins s σ H xs us Q I r h
  obtain ⟨i, rfl, q⟩ := h
  obtain ⟨u, rfl, t, rfl⟩ := vals1 r
  exact call_abs_int fun u tk => ⟨.int (if i < 0 then -i else i), H, I.tok _, ⟨_, rfl⟩, q⟩
/-- len of a str, a bytes, a list, a tuple -/
def LenV (K : PySem.W.Frag) (x : V) (H : Hp) (n : Nat) : Prop :=
  match x with
  | .str y => y.length ≤ sizeLine ∧ n = y.length
  | .byt y => y.size ≤ sizeLine ∧ n = y.size
  | .ref p => (∃ xs, SqL K H p xs ∧ n = xs.length) ∨ ∃ xs, SqT K H p xs ∧ n = xs.length
  | _ => False
theorem call_len : CallR X (.builtin "len") (fun xs H Q => ∃ x n, xs = [x] ∧ LenV X.K x H n ∧ Q (.int n) H) := by
  intro pins s σ H xs us Q I r h
  obtain ⟨x, n, rfl, e, q⟩ := h
  obtain ⟨u, rfl, rx⟩ := vals1 r
  have hl := line63
  have hs : sizeLine = 16777216 := sizeLine_eq
  cases x with
  | str y =>
    obtain ⟨t, rfl⟩ := rx
    obtain ⟨hy, e'⟩ : y.length ≤ sizeLine ∧ n = y.length := e
    subst e'
    exact len_str (by omega) ⟨.int _, H, I.tok _, ⟨_, rfl⟩, q⟩
  | byt y =>
    obtain ⟨t, rfl⟩ := rx
    obtain ⟨hy, e'⟩ : y.size ≤ sizeLine ∧ n = y.size := e
    subst e'
    exact PySem.W.len_bytes (by omega) ⟨.int _, H, I.tok _, ⟨_, rfl⟩, q⟩
  | ref p =>
    cases rx
    have e' : (∃ xs, SqL X.K H p xs ∧ n = xs.length) ∨ ∃ xs, SqT X.K H p xs ∧ n = xs.length := e
    rcases e' with ⟨xs, hx, e'⟩ | ⟨xs, hx, e'⟩
    · subst e'
      obtain ⟨its, r', pl, hz⟩ := I.list hx
      have hlen := r'.length
      exact Calls.call_len_list pl.isList (by simp only [List.size_toArray]; omega) ⟨.int xs.length, H, I.tok _, ⟨_, by simp only [List.size_toArray]; rw [hlen]⟩, q⟩
    · subst e'
      obtain ⟨its, r', pl, hz⟩ := I.tuple hx
      have hlen := r'.length
      exact len_tuple pl (by simp only [List.size_toArray]; omega) ⟨.int xs.length, H, I.tok _, ⟨_, by simp only [List.size_toArray]; rw [hlen]⟩, q⟩
  | _ => exact (show False from e).elim
end
end L2
namespace L2
open PySem PySem.Spec PyProof.Rows
/-! ### an instance, its attributes a map -/
structure ObjM (h : Heap) (x dx C : Addr) (mA : Str → Option Value) : Prop where
  obj : h.get? x = some (PySem.W.instObj C dx)
  ns : h.Ns1 dx mA
  ne : dx ≠ x
theorem lookIn_ns {h : Heap} {dx : Addr} {mA : Str → Option Value} (n : h.Ns1 dx mA) : ∃ od, h.get? dx = some od ∧ ∀ name, PySem.W.lookIn name od = some (mA name) := by
  obtain ⟨o, es, ep, ho, hd, hk, _, hm⟩ := n
  refine ⟨o, ho, fun name => ?_⟩
  have e := hm name
  unfold nsFind findBy at e
  rw [← Array.find?_toList] at e
  unfold PySem.W.lookIn
  rw [hd]
  dsimp only
  split
  · rename_i y q
    rw [q] at e
    exact congrArg some e
  · rename_i q
    rw [q] at e
    have a : es.toList.any (·.refKey) = false := by
      rw [List.any_eq_false]
      intro y hy
      obtain ⟨z, t, hkey⟩ := hk y (Array.mem_toList_iff.mp hy)
      simp [DictEntry.refKey, hkey]
    have a' : ¬ es.toList.any (·.refKey) = true := by rw [a]; exact Bool.false_ne_true
    rw [if_neg a']
    exact congrArg some e
theorem ObjM.look {h : Heap} {x dx C : Addr} {mA : Str → Option Value} (I : ObjM h x dx C mA) : ∃ od, PySem.W.InstAt h x (PySem.W.instObj C dx) C (some od) ∧ ∀ name, PySem.W.lookIn name od = some (mA name) :=
  let ⟨od, ho, hl⟩ := lookIn_ns I.ns
  ⟨od, ⟨I.obj, rfl, rfl, ho⟩, hl⟩
section
variable {prog : Program} {w : World} {A : Around} {E : Value → Shared → Prop} {s : Shared} {K : PySem.W.Frag} {x dx C f : Addr} {mA : Str → Option Value} {name : Str} {v : Value}
theorem get_map {expr : Bool} {Q : Value → Shared → Prop} (X : K.In s.heap) (I : ObjM s.heap x dx C mA) (hg : PySem.W.plainGet K C name = true) (hh : PySem.W.hasDictIn K C = true)
    (ha : PySem.W.findIn K (.ref C) name = some none) (hv : mA name = some v) (hv' : PySem.W.handedIn v = true) (h : Q v { s with toks := s.toks + 1 }) :
    wpAny (model prog w) A (getAttr (.ref x) name expr) Q E s := by
  obtain ⟨od, J, hl⟩ := I.look
  exact PySem.W.get_value X J (PySem.W.plainGet_of hg).1 (PySem.W.findObj_own hh ha rfl (by rw [hl, hv])) hv' h
theorem get_meth {pl : Sem Bool} {Q : Value × List Value → Shared → Prop} (X : K.In s.heap) (I : ObjM s.heap x dx C mA) (hg : PySem.W.plainGet K C name = true)
    (hf : PySem.W.findIn K (.ref C) name = some (some (.ref f))) (ht : PySem.W.isFn K (.ref f) = true) (hv : mA name = none) (h : Q (.ref f, [.ref x]) s) :
    wpAny (model prog w) A (getMethod (.ref x) name pl) Q E s := by
  obtain ⟨od, J, hl⟩ := I.look
  exact PySem.W.method_fn X J (PySem.W.plainGet_of hg).1 (PySem.W.plainGet_of hg).2 hf (beq_iff_eq.mp ht) (by show (PySem.W.lookIn name od).map (·.isSome) = some false; rw [hl, hv]; rfl) h
theorem set_map {ns : List Str} {Q : Unit → Shared → Prop} (X : K.In s.heap) (I : ObjM s.heap x dx C mA)
    (hs : PySem.W.findIn K (.ref C) "__setattr__" = some (some (.builtin "object.__setattr__"))) (hp : PySem.W.plainOver K C = true) (ht : PySem.W.takerIn K C name = some none) (hh : PySem.W.hasDictIn K C = true)
    (hw : PySem.Within mA ns) (hsz : ns.length ≤ sizeLine)
    (h : ∀ h', ObjM h' x dx C (fun y => if y = name then some v else mA y) → Heap.SameBut dx s.heap h' → Q () { s with heap := h', toks := s.toks + 2 }) :
    wpAny (model prog w) A (setAttr (.ref x) name v) Q E s := by
  obtain ⟨od, J, hl⟩ := I.look
  refine PySem.W.set_plain X J hs (PySem.W.osa_open (s := { s with toks := s.toks + 1 }) (r := none) X J hp ht fun b => ?_)
  obtain ⟨cd, hc, hd'⟩ := PySem.W.any_some hh
  have hx : s.heap.get? x = some ⟨.ref C, some dx, .plain, #[]⟩ := I.obj
  refine wpAny_bind (wpAny_pure (wpAny_bind (wpAny_bind (wpAny_loadPart hx (wpAny_bind (PySem.W.Looks.here (s := { s with toks := s.toks + 1 }) (PySem.W.looks_clsIn X hc) ?_))))))
  rw [hd']
  refine wpAny_pure (a := some dx) (wpAny_bind (wpAny_pure (wpAny_bind ?_)))
  refine wpAny_nsSet1 (s := { s with toks := s.toks + 1 }) I.ns fun h' hn2 hs2 => ?_
  obtain ⟨oD, esD, epD, hoD, hdD, hcD⟩ := hn2.count (PySem.Within.cons name v hw)
  refine wpAny_bind (wpAny_lookBehind hoD (by rw [hdD]; exact pastItsLine_dict (Nat.le_trans hcD (by rw [List.length_cons]; omega))) ?_)
  exact wpAny_pure (h _ ⟨(hs2.2 _ (Ne.symm I.ne)).trans I.obj, hn2, I.ne⟩ hs2)
/-- C(..): the dict at the heap's end, the instance behind it; then its __init__ -/
theorem make_map {R : Result → Shared → Prop} {vs : List Value} {kw : List (Str × Value)} (X : K.In s.heap) (hm : PySem.W.makesIn K C = true)
    (hi : PySem.W.findIn K (.ref C) "__init__" = some (some (.ref f))) (hf : PySem.W.typeIn K (.ref f) = some (.type "function"))
    (h : codeAny (model prog w) (A.under (.builtin "type.__call__" ⟨.ref C :: vs, kw⟩)) (.call (.ref f) ⟨.ref (s.heap.objs.size + 1) :: vs, kw⟩) (PySem.W.InitBack (s.heap.objs.size + 1) R)
      { s with heap := (s.heap.push PySem.W.emptyDict).push (PySem.W.instObj C s.heap.objs.size) }) :
    codeAny (model prog w) A (.call (.ref C) ⟨vs, kw⟩) R s := by
  obtain ⟨hh, g, d, t, os⟩ := s
  exact PySem.W.make_core (PySem.W.makes_of X hm) (PySem.W.looks_findIn X hi) (fun self => PySem.W.bind_fn X self hf) (.inl rfl) h
end
/-! ### the attributes as a list of pairs -/
def putF (f : Str) (v : V) : List (Str × V) → List (Str × V)
  | [] => [(f, v)]
  | (g, x) :: r => if g = f then (g, v) :: r else (g, x) :: putF f v r
theorem lookup_putF (f g : Str) (v : V) : ∀ fs : List (Str × V), (putF f v fs).lookup g = if g = f then some v else fs.lookup g
  | [] => by
    show List.lookup g [(f, v)] = _
    by_cases h : g = f
    · have hb : (g == f) = true := beq_iff_eq.mpr h
      simp only [List.lookup, hb, if_pos h]
    · have hb : (g == f) = false := beq_eq_false_iff_ne.mpr h
      simp only [List.lookup, hb, if_neg h]
  | (k, x) :: r => by
    have ih := lookup_putF f g v r
    rw [show putF f v ((k, x) :: r) = (if k = f then (k, v) :: r else (k, x) :: putF f v r) from rfl]
    by_cases hk : k = f
    · rw [if_pos hk]
      by_cases h : g = k
      · have hb : (g == k) = true := beq_iff_eq.mpr h
        simp only [List.lookup, hb, if_pos (h.trans hk)]
      · have hb : (g == k) = false := beq_eq_false_iff_ne.mpr h
        simp only [List.lookup, hb, if_neg (fun e : g = f => h (e.trans hk.symm))]
    · rw [if_neg hk]
      by_cases h : g = k
      · have hb : (g == k) = true := beq_iff_eq.mpr h
        simp only [List.lookup, hb, if_neg (fun e : g = f => hk (h.symm.trans e))]
      · have hb : (g == k) = false := beq_eq_false_iff_ne.mpr h
        simp only [List.lookup, hb]
        exact ih
theorem keys_putF (f : Str) (v : V) : ∀ fs : List (Str × V), f ∈ (putF f v fs).map (·.1) ∧ ∀ g, g ∈ fs.map (·.1) → g ∈ (putF f v fs).map (·.1)
  | [] => ⟨by simp [putF], fun g h => by simp at h⟩
  | (k, x) :: r => by
    obtain ⟨i1, i2⟩ := keys_putF f v r
    rw [show putF f v ((k, x) :: r) = (if k = f then (k, v) :: r else (k, x) :: putF f v r) from rfl]
    by_cases hk : k = f
    · rw [if_pos hk]
      subst hk
      exact ⟨by simp, fun g h => by simpa using h⟩
    · rw [if_neg hk]
      refine ⟨?_, fun g h => ?_⟩
      · rw [List.map_cons]
        exact List.mem_cons_of_mem _ i1
      · rw [List.map_cons] at h ⊢
        rcases List.mem_cons.mp h with e | e
        · exact List.mem_cons.mpr (.inl e)
        · exact List.mem_cons_of_mem _ (i2 g e)
theorem length_putF (f : Str) (v : V) : ∀ fs : List (Str × V), (putF f v fs).length ≤ fs.length + 1
  | [] => by simp [putF]
  | (k, x) :: r => by
    have ih := length_putF f v r
    rw [show putF f v ((k, x) :: r) = (if k = f then (k, v) :: r else (k, x) :: putF f v r) from rfl]
    by_cases hk : k = f
    · rw [if_pos hk, List.length_cons, List.length_cons]; omega
    · rw [if_neg hk, List.length_cons, List.length_cons]; omega
theorem RelO.some_of {v : V} {o : Option Value} (r : RelO (some v) o) : ∃ u, o = some u ∧ RelV v u := by
  cases o with
  | none => exact (show False from r).elim
  | some u => exact ⟨u, rfl, r⟩
theorem RelO.none_of {o : Option Value} (r : RelO none o) : o = none := by
  cases o with
  | none => rfl
  | some u => exact (show False from r).elim
theorem handed_of {v : V} {u : Value} (r : RelV v u) : PySem.W.handedIn u = true := by
  cases v with
  | non => cases (show u = Value.none from r); rfl
  | bl b => cases (show u = Value.bool b from r); rfl
  | int i => obtain ⟨t, e⟩ := (show ∃ t, u = Value.int i t from r); cases e; rfl
  | str x => obtain ⟨t, e⟩ := (show ∃ t, u = Value.str x t from r); cases e; rfl
  | byt b => obtain ⟨t, e⟩ := (show ∃ t, u = Value.bytes b t from r); cases e; rfl
  | flt b => obtain ⟨t, e⟩ := (show ∃ t, u = Value.float b t from r); cases e; rfl
  | ref a => cases (show u = Value.ref a from r); rfl
  | ty n => cases (show u = Value.type n from r); rfl
section
variable {P : Program} {w : World} {H H' : Hp} {h h' : Heap} {a C dx : Addr} {fs fs' : List (Str × V)}
theorem ins_get (hok : HOk P w H h) (e : H a = some (.ins C dx fs)) : ∃ mA, ObjM h a dx C mA ∧ (∀ f, RelO (fs.lookup f) (mA f)) ∧ PySem.Within mA (fs.map (·.1)) ∧ fs.length ≤ 1000 ∧ H dx = some (.own a) := by
  obtain ⟨d, z, ne, ob, mA, n, r, q⟩ := (show ObjOk P w H h a (.ins C dx fs) from hok a _ e)
  exact ⟨mA, ⟨ob, n, ne⟩, r, q, z, d⟩
end
/-! ### what of the text a class must have -/
structure Cls (K : PySem.W.Frag) (C : Addr) : Prop where
  pg : PySem.W.plainGet K C Str.empty = true
  hd : PySem.W.hasDictIn K C = true
  po : PySem.W.plainOver K C = true
  sa : PySem.W.findIn K (.ref C) "__setattr__" = some (some (.builtin "object.__setattr__"))
theorem Cls.get {K : PySem.W.Frag} {C : Addr} (c : Cls K C) (f : Str) : PySem.W.plainGet K C f = true := c.pg
/-- no class of it has the name -/
def NoAttr (K : PySem.W.Frag) (C : Addr) (f : Str) : Prop := PySem.W.findIn K (.ref C) f = some none
theorem NoAttr.taker {K : PySem.W.Frag} {C : Addr} {f : Str} (n : NoAttr K C f) : PySem.W.takerIn K C f = some none := by
  unfold PySem.W.takerIn
  rw [show PySem.W.findIn K (.ref C) f = some none from n]
  rfl
/-- a constant of the class -/
structure Con (K : PySem.W.Frag) (C : Addr) (f : Str) (v : V) (u : Value) : Prop where
  at_ : PySem.W.findIn K (.ref C) f = some (some u)
  rel : RelV v u
  get : PySem.W.specialIn K u "__get__" = some none
  cp : PySem.W.copiedNames.contains f = false
/-- a method: a plain def of the class or of one above it -/
structure Meth (K : PySem.W.Frag) (C : Addr) (m : Str) (f : Addr) : Prop where
  at_ : PySem.W.findIn K (.ref C) m = some (some (.ref f))
  fn : PySem.W.isFn K (.ref f) = true
  kp : PySem.W.keepIn K (.ref f) = true
section
variable {X : Cx} {pins : List (Addr × Obj)} {σ : St} {H : Hp} {s : Shared} {a C dx : Addr} {fs : List (Str × V)} {f : Str} {v : V} {A : Around} {E : Value → Shared → Prop}
theorem getattr_ok {b : Bool} {Q : Value → Shared → Prop} (I : Inv X pins σ H s) (e : H a = some (.ins C dx fs)) (c : Cls X.K C) (n : NoAttr X.K C f) (l : fs.lookup f = some v)
    (h : ∀ u s', Inv X pins σ H s' → RelV v u → Q u s') : wpAny (model X.prog X.w) A (getAttr (.ref a) f b) Q E s := by
  obtain ⟨mA, O, r, _, _, _⟩ := ins_get I.hok e
  obtain ⟨u, hu, ru⟩ := RelO.some_of (v := v) (o := mA f) (by rw [← l]; exact r f)
  exact get_map I.kIn O (c.get f) c.hd n hu (handed_of ru) (h u _ (I.tok _) ru)
theorem getmeth_ok {m : Str} {g : Addr} {pl : Sem Bool} {Q : Value × List Value → Shared → Prop} (I : Inv X pins σ H s) (e : H a = some (.ins C dx fs)) (c : Cls X.K C) (k : Meth X.K C m g) (l : fs.lookup m = none)
    (h : Q (.ref g, [.ref a]) s) : wpAny (model X.prog X.w) A (getMethod (.ref a) m pl) Q E s := by
  obtain ⟨mA, O, r, _, _, _⟩ := ins_get I.hok e
  have hn : mA m = none := RelO.none_of (by rw [← l]; exact r m)
  exact get_meth I.kIn O (c.get m) k.at_ k.fn hn h
theorem setattr_ok {y : V} {u : Value} {Q : Unit → Shared → Prop} (I : Inv X pins σ H s) (e : H a = some (.ins C dx fs)) (c : Cls X.K C) (n : NoAttr X.K C f) (hl : fs.length < 1000) (ry : RelV y u)
    (h : ∀ s', Inv X pins σ (upd H a (.ins C dx (putF f y fs))) s' → Q () s') : wpAny (model X.prog X.w) A (setAttr (.ref a) f u) Q E s := by
  obtain ⟨mA, O, r, wi, _, ho⟩ := ins_get I.hok e
  have hz : (fs.map (·.1)).length ≤ sizeLine := by rw [List.length_map, sizeLine_eq]; omega
  refine set_map I.kIn O c.sa c.po n.taker c.hd wi hz fun h' O' sb => h _ ?_
  have hd : ∃ o, h'.get? dx = some o := let ⟨o, _, _, e', _⟩ := O'.ns; ⟨o, e'⟩
  refine I.write (x := a) (e := dx) (by rw [e]; exact True.intro) (.inr ho) (fun b q hb z => (sb.2 b hb).trans z) hd ?_
  refine ⟨by rw [upd_ne O.ne]; exact ho, ?_, O.ne, O'.obj, _, O'.ns, fun g => ?_, fun g hg => ?_⟩
  · have := length_putF f y fs; omega
  · show RelO ((putF f y fs).lookup g) (if g = f then some u else mA g)
    rw [lookup_putF]
    by_cases q : g = f
    · rw [if_pos q, if_pos q]; exact ry
    · rw [if_neg q, if_neg q]; exact r g
  · by_cases q : g = f
    · rw [q]; exact (keys_putF f y fs).1
    · refine (keys_putF f y fs).2 g (wi g fun z => hg ?_)
      show (if g = f then some u else mA g) = none
      rw [if_neg q]; exact z
/-- a new instance, tracked, without attributes -/
theorem Inv.made (I : Inv X pins σ H s) : Inv X pins σ (upd (upd H s.heap.objs.size (.own (s.heap.objs.size + 1))) (s.heap.objs.size + 1) (.ins C s.heap.objs.size []))
    { s with heap := (s.heap.push PySem.W.emptyDict).push (PySem.W.instObj C s.heap.objs.size) } := by
  have e1 : (s.heap.push PySem.W.emptyDict).get? s.heap.objs.size = some PySem.W.emptyDict := Heap.get?_push_size s.heap rfl
  have e2 : ((s.heap.push PySem.W.emptyDict).push (PySem.W.instObj C s.heap.objs.size)).get? (s.heap.objs.size + 1) = some (PySem.W.instObj C s.heap.objs.size) := by
    have := Heap.get?_push_size (s.heap.push PySem.W.emptyDict) (o := PySem.W.instObj C s.heap.objs.size) rfl
    rwa [Heap.size_push] at this
  have e3 : (s.heap.push PySem.W.emptyDict).Ns s.heap.objs.size (fun _ => none) := ⟨PySem.W.emptyDict, #[], _, e1, rfl, (fun e he => absurd he (by simp)), fun _ => rfl⟩
  have I1 := I.laid (a := s.heap.objs.size) (o := .own (s.heap.objs.size + 1)) (h' := s.heap.push PySem.W.emptyDict) (t' := s.toks) (fun b u q => Heap.get?_push_of_some _ q) (Nat.le_refl _) ⟨_, e1⟩
  refine I1.laid (a := s.heap.objs.size + 1) (o := .ins C s.heap.objs.size []) (t' := s.toks) (fun b u q => Heap.get?_push_of_some _ q) (Nat.le_of_eq (Heap.size_push _ _)) ?_
  have ne : s.heap.objs.size ≠ s.heap.objs.size + 1 := Nat.ne_of_lt (Nat.lt_succ_self _)
  refine ⟨by rw [upd_ne ne, upd_same], Nat.zero_le _, ne, e2, fun _ => none, (Heap.Ns1.of_empty e3).at fun o q => Heap.get?_push_of_some _ q, fun _ => True.intro, fun y hy => absurd rfl hy⟩
/-- e.f where nothing but the object is asked: through attributeBase (super) and the last hold -/
theorem attr_of {prog : Program} {w : World} {env : Env} {e : Expr} {f : Str} {pos : Pos} {s : Shared} {Q : Value → Shared → Prop} (hb : attributeBase e f env (eval e env) = eval e env)
    (h : wpAny (model prog w) A (eval e env) (fun o s₁ => wpAny (model prog w) A (getAttr o f true) Q E s₁) E s) : wpAny (model prog w) A (eval (.Attribute e f pos) env) Q E s :=
  Attribute_any_ h (by rw [arm_eval_Attribute, hb])
end
/-! ### readings and rules -/
/-- e.f, an attribute of the instance -/
def tFld (K : PySem.W.Frag) (ta : TE) (f : Str) : TE := fun σ H Q => ta σ H fun x H1 => ∃ a C dx fs v, x = .ref a ∧ H1 a = some (.ins C dx fs) ∧ Cls K C ∧ NoAttr K C f ∧ fs.lookup f = some v ∧ Q v H1
/-- e.f = value -/
def sFld (K : PySem.W.Frag) (ta tv : TE) (f : Str) : TS := fun D σ H => tv σ H fun y H1 => ta σ H1 fun x H2 => ∃ a C dx fs, x = .ref a ∧ H2 a = some (.ins C dx fs) ∧ Cls K C ∧ NoAttr K C f ∧ fs.length < 1000 ∧
  D.nx σ (upd H2 a (.ins C dx (putF f y fs)))
section
variable {X : Cx} {o e value : Expr} {f : Str} {pos pos' tpos : Pos} {ta tv : TE}
theorem pe_fld (he : PE X e ta) (hb : attributeBase e f X.env (eval e X.env) = eval e X.env) : PE X (.Attribute e f pos) (tFld X.K ta f) := by
  intro pins s σ H Q I h
  refine attr_of hb (thn (he pins s σ H _ I h) fun u s1 ⟨x, H1, I1, rx, a, C, dx, fs, v, ex, ea, c, n, l, q⟩ => ?_)
  subst ex
  obtain rfl : u = Value.ref a := rx
  exact getattr_ok I1 ea c n l fun u' s2 I2 ru => ⟨v, H1, I2, ru, q⟩
theorem ps_fld (ha : PE X o ta) (hv : PE X value tv) (hs : swapsWith value (some (.Attribute o f pos')) pos.line X.env = pure false) : PS X (.Assign [.Attribute o f pos'] value pos) (sFld X.K ta tv f) := by
  intro pins s σ H D I h
  refine plainObj_wpAny_Assign_Attribute (thn (hv pins s σ H _ I h) fun u s1 ⟨y, H1, I1, ry, q⟩ => thn (ha pins s1 σ H1 _ I1 q) fun ov s2 ⟨x, H2, I2, rx, a, C, dx, fs, ex, ea, c, n, l, q2⟩ => ?_) hs
  subst ex
  obtain rfl : ov = Value.ref a := rx
  exact setattr_ok I2 ea c n l ry fun s3 I3 => ⟨σ, _, I3, q2⟩
end
/-! ### isinstance -/
section
variable {X : Cx} {pins : List (Addr × Obj)} {σ : St} {H : Hp} {s : Shared} {A : Around} {E : Value → Shared → Prop} {Q : Value → Shared → Prop} {c : Value} {b : Bool}
/-- the type of a value, as the fragment's deciders take it; for an instance its class -/
inductive TyOf (K : PySem.W.Frag) (H : Hp) : V → Value → Prop where
  | non : TyOf K H .non (.type "NoneType")
  | bl (x : Bool) : TyOf K H (.bl x) (.type "bool")
  | int (i : Int) : TyOf K H (.int i) (.type "int")
  | str (x : Str) : TyOf K H (.str x) (.type "str")
  | flt (x : UInt64) : TyOf K H (.flt x) (.type "float")
  | lst {a : Addr} {xs : List V} (e : H a = some (.lst xs)) : TyOf K H (.ref a) (.type "list")
  | frz {a : Addr} {o : Obj} {xs : List V} (e : H a = some (.frz o (.lst xs))) : TyOf K H (.ref a) (.type "list")
  | tup {a : Addr} {xs : List V} (e : H a = some (.tup xs)) : TyOf K H (.ref a) (.type "tuple")
  | dK {a : Addr} {kvs : List (Key × V)} (e : H a = some (.dK kvs)) : TyOf K H (.ref a) (.type "dict")
  | dT {a : Addr} {kvs : List (List Key × V)} (e : H a = some (.dT kvs)) : TyOf K H (.ref a) (.type "dict")
  | ins {a C dx : Addr} {fs : List (Str × V)} (e : H a = some (.ins C dx fs)) (cl : Cls K C) (ha : PySem.W.findIn K (.ref C) "__class__" = some (some (.builtin "object.__class__")))
      (hn : PySem.W.specialIn K (.builtin "object.__class__") "__get__" = some (some (.builtin "getset_descriptor.__get__"))) (htk : PySem.W.takesIn K (.builtin "object.__class__") = some true)
      (hm : PySem.W.mroIn K C (.type "object") = some true) : TyOf K H (.ref a) (.ref C)
/-- isinstance(x, c) for one class c, a built-in or an own one: kitOne's answer -/
theorem isinst_ok {x : V} {u t : Value} (I : Inv X pins σ H s) (rx : RelV x u) (ty : TyOf X.K H x t) (e : PySem.W.kitOne X.K t c = some b) (h : ∀ tk, Q (.bool b) { s with toks := tk }) :
    wpAny (model X.prog X.w) A (call (.builtin "isinstance") [u, c]) Q E s := by
  cases ty with
  | non => cases (show u = Value.none from rx); exact PySem.W.kia_one PySem.W.kitx_none I.kIn True.intro e (fun z => nomatch z) h
  | bl y => cases (show u = Value.bool y from rx); exact PySem.W.kia_one PySem.W.kitx_bool I.kIn True.intro e (fun z => nomatch z) h
  | int i => obtain ⟨t, q⟩ := (show ∃ t, u = Value.int i t from rx); cases q; exact PySem.W.kia_one PySem.W.kitx_int I.kIn True.intro e (fun z => nomatch z) h
  | str y => obtain ⟨t, q⟩ := (show ∃ t, u = Value.str y t from rx); cases q; exact PySem.W.kia_one PySem.W.kitx_str I.kIn True.intro e (fun z => nomatch z) h
  | flt y => obtain ⟨t, q⟩ := (show ∃ t, u = Value.float y t from rx); cases q; exact PySem.W.kia_one PySem.W.kitx_float I.kIn True.intro e (fun z => nomatch z) h
  | @lst a xs ea =>
    cases (show u = Value.ref a from rx)
    obtain ⟨_, _, n, _, h1⟩ := (show ObjOk X.prog X.w H s.heap a (.lst xs) from I.hok a _ ea)
    exact PySem.W.kia_one PySem.W.kitx_list I.kIn ⟨_, h1, rfl⟩ e (fun z => nomatch z) h
  | @frz a ob xs ea =>
    cases (show u = Value.ref a from rx)
    obtain ⟨_, _, _, n, _, h1⟩ := (show ObjOk X.prog X.w H s.heap a (.frz ob (.lst xs)) from I.hok a _ ea)
    exact PySem.W.kia_one PySem.W.kitx_list I.kIn ⟨_, h1, rfl⟩ e (fun z => nomatch z) h
  | @tup a xs ea =>
    cases (show u = Value.ref a from rx)
    obtain ⟨_, _, _, p⟩ := (show ObjOk X.prog X.w H s.heap a (.tup xs) from I.hok a _ ea)
    obtain ⟨o, h1, h2, _⟩ := p
    exact PySem.W.kia_one PySem.W.kitx_tuple I.kIn ⟨o, h1, h2⟩ e (fun z => nomatch z) h
  | @dK a kvs ea =>
    cases (show u = Value.ref a from rx)
    obtain ⟨_, _, vs, _, p⟩ := (show ObjOk X.prog X.w H s.heap a (.dK kvs) from I.hok a _ ea)
    obtain ⟨o, es, ep, h1, h2, _⟩ := p
    exact PySem.W.kia_one PySem.W.kitx_dict I.kIn ⟨o, h1, h2.1⟩ e (fun z => nomatch z) h
  | @dT a kvs ea =>
    cases (show u = Value.ref a from rx)
    obtain ⟨_, _, xs, _, o, es, ep, h1, h2, _⟩ := (show ObjOk X.prog X.w H s.heap a (.dT kvs) from I.hok a _ ea)
    exact PySem.W.kia_one PySem.W.kitx_dict I.kIn ⟨o, h1, h2.1⟩ e (fun z => nomatch z) h
  | @ins a C dx fs ea cl ha hn htk hm =>
    cases (show u = Value.ref a from rx)
    obtain ⟨mA, O, _⟩ := ins_get I.hok ea
    obtain ⟨od, J, _⟩ := O.look
    exact PySem.W.kia_one (PySem.W.kitx_own (cl.get _) cl.hd ha hn htk hm) I.kIn J e (fun z => nomatch z) h
end
end L2
namespace L2
open PySem PySem.Spec PyProof.Rows
/-! ### room -/
structure Room (k : Nat) (A : Around) : Prop where
  hd : A.handled = none
  dp : A.depth + 3 * k + 5 < recursionLimit
  un : A.units + 16 * k + 200 < cLine
  gd : A.guards = some []
theorem Room.mono {j k : Nat} {A : Around} (r : Room k A) (h : j ≤ k) : Room j A := ⟨r.hd, by have := r.dp; omega, by have := r.un; omega, r.gd⟩
theorem Room.deeper {k : Nat} {A : Around} (r : Room (k + 1) A) (env : Env) : Room k (A.deeper env) :=
  ⟨r.hd, by have := r.dp; show A.depth + 1 + 3 * k + 5 < _; omega, by have := r.un; show A.units + 3 + 16 * k + 200 < _; omega, r.gd⟩
theorem Room.in1 {k : Nat} {A : Around} (r : Room (k + 1) A) : Room k A.in1 :=
  ⟨r.hd, by have := r.dp; show A.depth + 3 * k + 5 < _; omega, by have := r.un; show A.units + 1 + 16 * k + 200 < _; omega, r.gd⟩
theorem make_depth {A : Around} {C : Addr} {us : List Value} {kw : List (Str × Value)} : (A.under (.builtin "type.__call__" ⟨.ref C :: us, kw⟩)).depth = A.depth + 1 := by
  first | rfl | simp [Around.under, Code.weight, Code.isCreation, Code.isGuard, Code.isCaller, Code.frames, Code.isFrame, guardIds]
theorem make_units {A : Around} {C : Addr} {us : List Value} {kw : List (Str × Value)} : (A.under (.builtin "type.__call__" ⟨.ref C :: us, kw⟩)).units = A.units + 1 := by
  first | rfl | simp [Around.under, Code.cUnits, Code.frames, Code.isFrame]
theorem Room.make {k : Nat} {A : Around} (r : Room (k + 1) A) (C : Addr) (us : List Value) (kw : List (Str × Value)) : Room k (A.under (.builtin "type.__call__" ⟨.ref C :: us, kw⟩)) :=
  ⟨r.hd, by have := r.dp; rw [make_depth]; omega, by have := r.un; rw [make_units]; omega, by simp [Around.under, Code.guards, Code.isGuard, guardIds, pushGuards, r.gd]⟩
theorem Room.depth {k : Nat} {A : Around} (r : Room k A) : A.depth < recursionLimit := by have := r.dp; omega
theorem Room.units {k : Nat} {A : Around} (r : Room k A) : A.units + 64 < cLine := by have := r.un; omega
/-! ### argument lists and displays -/
def tNil : TA := fun _ H Q => Q [] H
def tCons (ta : TE) (tr : TA) : TA := fun σ H Q => ta σ H fun x H1 => tr σ H1 fun xs H2 => Q (x :: xs) H2
section
variable {X : Cx} {e : Expr} {es : List Expr} {te : TE} {t : TA} {pos : Pos}
theorem pa_nil : PA X [] tNil := fun _ _ _ _ H Q I h => Calls.spliced_nil ⟨[], H, I, .nil, h⟩
theorem pa_cons (ha : PE X e te) (hr : PA X es t) (hs : starEach (e :: es) X.env = (false, eval e X.env) :: starEach es X.env := by rfl) : PA X (e :: es) (tCons te t) := by
  intro pos pins s σ H Q I h
  rw [hs]
  show wpAny _ _ (spliced ((false, eval e X.env) :: backTo pos (starEach es X.env))) _ _ s
  refine Calls.spliced_cons (thn (ha pins s σ H _ I h) fun u s1 ⟨x, H1, I1, r1, q1⟩ => ?_)
  exact thn (hr pos pins s1 σ H1 _ I1 q1) fun us s2 ⟨xs, H2, I2, r2, q2⟩ => ⟨x :: xs, H2, I2, .cons r1 r2, q2⟩
/-- a tuple, a list of written items -/
def tTup (t : TA) : TE := fun σ H Q => t σ H fun xs H1 => xs.length ≤ sizeLine ∧ ∀ p, H1 p = none → Q (.ref p) (upd H1 p (.tup xs))
def tLst (t : TA) : TE := fun σ H Q => t σ H fun xs H1 => xs.length ≤ sizeLine ∧ ∀ p, H1 p = none → Q (.ref p) (upd H1 p (.lst xs))
theorem pe_tup {x1} (h : PA X es t) : PE X (.Tuple es x1 pos) (tTup t) := by
  intro pins s σ H Q I hq
  refine wpAny_Tuple_spliced (thn (h pos pins s σ H _ I hq) fun us s1 ⟨xs, H1, I1, r, z, q⟩ => ⟨by rw [← r.length]; exact z, ?_⟩)
  have hf : H1 s1.heap.objs.size = none := I1.hok.fresh (Nat.le_refl _)
  refine ⟨.ref s1.heap.objs.size, upd H1 s1.heap.objs.size (.tup xs), I1.laid (t' := s1.toks) (fun b u e => Heap.get?_push_of_some _ e) (Nat.le_refl _) ?_, rfl, q _ hf⟩
  exact ⟨z, us, r, ⟨_, Heap.get?_push_size _ rfl, rfl, _, rfl⟩⟩
theorem pe_lst (h : PA X es t) : PE X (.List es pos) (tLst t) := by
  intro pins s σ H Q I hq
  refine wpAny_List_spliced (thn (h pos pins s σ H _ I hq) fun us s1 ⟨xs, H1, I1, r, z, q⟩ => ⟨by rw [← r.length]; exact z, ?_⟩)
  have hf : H1 s1.heap.objs.size = none := I1.hok.fresh (Nat.le_refl _)
  refine ⟨.ref s1.heap.objs.size, upd H1 s1.heap.objs.size (.lst xs), I1.laid (t' := s1.toks) (fun b u e => Heap.get?_push_of_some _ e) (Nat.le_refl _) ?_, rfl, q _ hf⟩
  exact ⟨z, us, 0, r, Heap.get?_push_size _ rfl⟩
end
/-! ### what a def promises -/
/-- a def's promise: the bound arguments in the parameters' order, the heap, the wanted end, the wanted exception -/
abbrev Sp := List V → Hp → VK → XK → Prop
/-- how an exception lies behind a call (file 08 gives it): the callers' frames, abstract heap and state ahead of the call, the wish, the exception, the state -/
abbrev CXT := List Env → Hp → Shared → XK → Value → Shared → Prop
/-- the state at a call -/
structure Env0 (P : Program) (w : World) (K : PySem.W.Frag) (mg : Str → Option Value) (base : Heap) (A : Around) (outer : List Env) (s : Shared) (H : Hp) : Prop where
  frames : A.frames = some outer
  mod : Mod K mg base
  bs : ∀ b o, base.get? b = some o → s.heap.get? b = some o ∧ H b = none
  bsz : base.objs.size ≤ s.heap.objs.size
  funs : s.heap.FunFrames base outer
  frf : ∀ b ∈ frs outer, H b = none
  hok : HOk P w H s.heap
  bare : AllBare s.gens
/-- a call's end -/
def CE (outer : List Env) (P : Program) (w : World) (H : Hp) (s : Shared) (Q : VK) (u : Value) (s' : Shared) : Prop :=
  ∃ v H', s'.os = s.os ∧ AllBare s'.gens ∧ Un (frs outer) [] H H' s.heap s'.heap ∧ HOk P w H' s'.heap ∧ RelV v u ∧ Q v H'
def CR (CX : CXT) (outer : List Env) (P : Program) (w : World) (H : Hp) (s : Shared) (Q : VK) (E : XK) (r : Result) (s' : Shared) : Prop :=
  match r with
  | .ok (.ret u) => CE outer P w H s Q u s'
  | .ok _ => False
  | .error e => CX outer H s E e s'
structure FnOk (P : Program) (w : World) (K : PySem.W.Frag) (mg : Str → Option Value) (base : Heap) (CX : CXT) (k : Nat) (f : Addr) (fd : FuncData) (ps : List Str) (sp : Sp) : Prop where
  len : ∀ vs H Q E, sp vs H Q E → vs.length = ps.length
  run : ∀ (A : Around) (outer : List Env) (s : Shared) (H : Hp) (args : Args) (us : List Value) (vs : List V) (Q : VK) (E : XK), Room k A → Env0 P w K mg base A outer s H → BindsTo s fd args (ps.zip us) → Vals vs us → sp vs H Q E →
    codeAny (model P w) A (.call (.ref f) args) (CR CX outer P w H s Q E) s
theorem FnOk.mono {P : Program} {w : World} {K : PySem.W.Frag} {mg : Str → Option Value} {base : Heap} {CX : CXT} {j k : Nat} {f : Addr} {fd : FuncData} {ps : List Str} {sp : Sp} (F : FnOk P w K mg base CX j f fd ps sp) (h : j ≤ k) :
    FnOk P w K mg base CX k f fd ps sp := ⟨F.len, fun A outer s H args us vs Q E hr => F.run A outer s H args us vs Q E (hr.mono h)⟩
/-- a weaker promise -/
theorem FnOk.imp {P : Program} {w : World} {K : PySem.W.Frag} {mg : Str → Option Value} {base : Heap} {CX : CXT} {k : Nat} {f : Addr} {fd : FuncData} {ps : List Str} {sp sp' : Sp} (F : FnOk P w K mg base CX k f fd ps sp)
    (h : ∀ vs H Q E, sp' vs H Q E → sp vs H Q E) : FnOk P w K mg base CX k f fd ps sp' :=
  ⟨fun vs H Q E q => F.len vs H Q E (h _ _ _ _ q), fun A outer s H args us vs Q E hr he hb hv hs => F.run A outer s H args us vs Q E hr he hb hv (h _ _ _ _ hs)⟩
theorem Env0.make {P : Program} {w : World} {K : PySem.W.Frag} {mg : Str → Option Value} {base : Heap} {A : Around} {outer : List Env} {s : Shared} {H : Hp} (e : Env0 P w K mg base A outer s H) (C : Addr) (us : List Value) (kw : List (Str × Value)) :
    Env0 P w K mg base (A.under (.builtin "type.__call__" ⟨.ref C :: us, kw⟩)) outer s H := ⟨by first | exact e.frames | (simpa [Around.under, Code.envs, Code.isFrame, pushEnvs] using e.frames), e.mod, e.bs, e.bsz, e.funs, e.frf, e.hok, e.bare⟩
theorem Env0.in1 {P : Program} {w : World} {K : PySem.W.Frag} {mg : Str → Option Value} {base : Heap} {A : Around} {outer : List Env} {s : Shared} {H : Hp} (e : Env0 P w K mg base A outer s H) :
    Env0 P w K mg base A.in1 outer s H := ⟨e.frames, e.mod, e.bs, e.bsz, e.funs, e.frf, e.hok, e.bare⟩
section
variable {X : Cx} {pins : List (Addr × Obj)} {σ : St} {H : Hp} {s s' : Shared}
/-- from a body: what a callee wants -/
theorem Inv.env0 (I : Inv X pins σ H s) : Env0 X.prog X.w X.K X.mg X.base X.A X.stack s H :=
  ⟨I.ok.frames, I.ok.mod, I.bs, Nat.le_trans I.ok.bsz I.sz, I.stack, I.stkFree, I.hok, I.bare⟩
/-- behind a call -/
theorem Inv.after {Q : VK} {u : Value} (I : Inv X pins σ H s) (h : CE X.stack X.prog X.w H s Q u s') : EP X pins σ Q u s' := by
  obtain ⟨v, H', os, bare, un, hok, r, q⟩ := h
  obtain ⟨hh, g, d, t, os'⟩ := s'
  obtain rfl : os' = s.os := os
  exact ⟨v, H', I.call (h' := hh) (g' := g) (d' := d) (t' := t) (ch := []) un hok bare (fun b z => absurd z (by simp)), r, q⟩
end
/-! ### calls -/
/-- f(..): the written arguments, then the defaults dvs; E: what is wanted of an exception -/
def tCall (sp : Sp) (dvs : List V) (E : XK) (t : TA) : TE := fun σ H Q => t σ H fun vs H1 => sp (vs ++ dvs) H1 Q E
/-- o.m(..) of an instance of the class at C -/
def tMeth (C : Addr) (m : Str) (sp : Sp) (dvs : List V) (E : XK) (ta : TE) (t : TA) : TE := fun σ H Q => ta σ H fun x H1 => ∃ a dx fs, x = .ref a ∧ H1 a = some (.ins C dx fs) ∧ fs.lookup m = none ∧
  t σ H1 fun vs H2 => sp (x :: (vs ++ dvs)) H2 Q E
/-- C(..): a new instance and its dict, then __init__ -/
def tMake (C : Addr) (sp : Sp) (dvs : List V) (E : XK) (t : TA) : TE := fun σ H Q => t σ H fun vs H1 => ∀ x dx, H1 x = none → H1 dx = none → dx ≠ x →
  sp (.ref x :: (vs ++ dvs)) (upd (upd H1 dx (.own x)) x (.ins C dx [])) (fun v H2 => v = .non ∧ Q (.ref x) H2) E
/-- how the parameters are bound: us the positional arguments, kw the keywords' values by name, ds the defaults that fill up -/
def Binds (K : PySem.W.Frag) (fd : FuncData) (ps : List Str) (ds : List Value) : Prop :=
  ∀ (s : Shared) (us : List Value), K.In s.heap → (us ++ ds).length = ps.length → BindsTo s fd ⟨us, []⟩ (ps.zip (us ++ ds))
/-- every parameter is given -/
theorem Binds.all {K : PySem.W.Frag} {fd : FuncData} {ps : List Str} (h : ∀ us : List Value, us.length = ps.length → bindArgs fd ⟨us, []⟩ = pure (ps.zip us)) : Binds K fd ps [] := fun s us _ hl => by
  rw [List.append_nil] at hl ⊢
  exact .of_eq (h us hl)
/-- an exception of a callee reaches what this body wants of exceptions -/
def Passes (CX : CXT) (X : Cx) (E : XK) : Prop := ∀ (pins : List (Addr × Obj)) (σ : St) (H : Hp) (s : Shared) (e : Value) (s' : Shared), Inv X pins σ H s → CX X.stack H s E e s' → X.xe e s'
section
variable {X : Cx} {CX : CXT} {k : Nat} {f C : Addr} {fd : FuncData} {ps : List Str} {sp : Sp} {dvs : List V} {ds : List Value} {E : XK} {x m : Str} {p pos apos : Pos} {e o : Expr} {es : List Expr} {ta : TE} {t : TA}
/-- the callee runs -/
theorem run_fn {pins : List (Addr × Obj)} {σ : St} {H : Hp} {s : Shared} {Q : VK} {us : List Value} {vs : List V} (F : FnOk X.prog X.w X.K X.mg X.base CX k f fd ps sp) (hr : Room k X.A) (hb : Binds X.K fd ps ds) (hd : Vals dvs ds) (hx : Passes CX X E)
    (I : Inv X pins σ H s) (r : Vals vs us) (h : sp (vs ++ dvs) H Q E) : wpAny (model X.prog X.w) X.A (call (.ref f) us) (EP X pins σ Q) X.xe s := by
  have r2 : Vals (vs ++ dvs) (us ++ ds) := r.append hd
  have hl : (us ++ ds).length = ps.length := by rw [← r2.length]; exact F.len _ _ _ _ h
  refine wpAny_call (codeAny_mono (F.run X.A X.stack s H ⟨us, []⟩ (us ++ ds) (vs ++ dvs) Q E hr I.env0 (hb s us I.kIn hl) r2 h) fun r s' hq => ?_)
  cases r with
  | error e => exact hx pins σ H s e s' I hq
  | ok fl =>
    cases fl with
    | ret u => exact I.after hq
    | next => exact False.elim hq
    | brk => exact False.elim hq
    | cont => exact False.elim hq
theorem pe_call (F : FnOk X.prog X.w X.K X.mg X.base CX k f fd ps sp) (hr : Room k X.A) (hg : Gl X x) (hm : X.mg x = some (.ref f)) (hk : PySem.W.keepIn X.K (.ref f) = true) (hb : Binds X.K fd ps ds) (hd : Vals dvs ds) (hx : Passes CX X E)
    (ha : PA X (e :: es) t) (hdb : (x == ("__debug__" : Str)) = false := by decide) (he : starEach (e :: es) X.env = (false, eval e X.env) :: starEach es X.env := by rfl) (hpl : (backTo pos (starEach es X.env)).any (·.1) = false := by rfl) :
    PE X (.Call (.Name x p) (e :: es) [] pos) (tCall sp dvs E t) := by
  intro pins s σ H Q I h
  refine wpAny_Call_Name_kw (ld_glob I hg hm ?_ hdb)
  refine PySem.W.callWith_K (h₀ := X.base) I.ok.mod.kin hk (thn (ha pos pins s σ H _ I h) fun us s1 ⟨vs, H1, I1, r, q⟩ => ⟨I1.kIn, ?_⟩) he hpl
  exact run_fn F hr hb hd hx I1 r q
/-- o.m(e, ..) -/
theorem pe_meth {pl : Sem Bool} (he : PE X o ta) (c : Cls X.K C) (hm : Meth X.K C m f) (F : FnOk X.prog X.w X.K X.mg X.base CX k f fd ps sp) (hr : Room k X.A) (hb : Binds X.K fd ps ds) (hd : Vals dvs ds) (hx : Passes CX X E) (ha : PA X (e :: es) t)
    (hst : starEach (e :: es) X.env = (false, eval e X.env) :: starEach es X.env := by rfl) (hpl : (backTo pos (starEach es X.env)).any (·.1) = false := by rfl)
    (ht : eval (.Call (.Attribute o m apos) (e :: es) [] pos) X.env = (do
      let ov ← eval o X.env
      standAt apos.atName
      let (f, first) ← holding [ov] (getMethod ov m pl)
      callWith pos f first (backTo pos (starEach (e :: es) X.env)) (backToKw pos (keywordEach [] X.env))) := by rfl) :
    PE X (.Call (.Attribute o m apos) (e :: es) [] pos) (tMeth C m sp dvs E ta t) := by
  intro pins s σ H Q I h
  refine PySem.W.methodCall_KW (pl := pl) (thn (he pins s σ H _ I h) fun u s1 ⟨x, H1, I1, rx, a, dx, fs, ex, ea, l, q⟩ => ?_) ht
  subst ex
  obtain rfl : u = Value.ref a := rx
  refine getmeth_ok I1 ea c hm l ?_
  refine PySem.W.callWith_K (first := [.ref a]) (h₀ := X.base) I.ok.mod.kin hm.kp (thn (ha pos pins s1 σ H1 _ I1 q) fun us s2 ⟨vs, H2, I2, r, q2⟩ => ⟨I2.kIn, ?_⟩) hst hpl
  exact run_fn (us := .ref a :: us) (vs := .ref a :: vs) F hr hb hd hx I2 (.cons rfl r) q2
/-- what a class must have to be made -/
structure Mk (K : PySem.W.Frag) (C f : Addr) : Prop where
  makes : PySem.W.makesIn K C = true
  init : PySem.W.findIn K (.ref C) "__init__" = some (some (.ref f))
  fn : PySem.W.isFn K (.ref f) = true
  kp : PySem.W.keepIn K (.ref C) = true
theorem run_make {pins : List (Addr × Obj)} {σ : St} {H : Hp} {s : Shared} {Q : VK} {us : List Value} {vs : List V} (M : Mk X.K C f) (F : FnOk X.prog X.w X.K X.mg X.base CX k f fd ps sp) (hr : Room (k + 1) X.A) (hb : Binds X.K fd ps ds) (hd : Vals dvs ds)
    (hx : Passes CX X E) (I : Inv X pins σ H s) (r : Vals vs us)
    (h : ∀ x dx, H x = none → H dx = none → dx ≠ x → sp (.ref x :: (vs ++ dvs)) (upd (upd H dx (.own x)) x (.ins C dx [])) (fun v H2 => v = .non ∧ Q (.ref x) H2) E) :
    wpAny (model X.prog X.w) X.A (call (.ref C) us) (EP X pins σ Q) X.xe s := by
  have hq := h (s.heap.objs.size + 1) s.heap.objs.size (I.hok.fresh (Nat.le_succ _)) (I.hok.fresh (Nat.le_refl _)) (Nat.ne_of_lt (Nat.lt_succ_self _))
  have I2 := Inv.made (C := C) I
  have r2 : Vals (V.ref (s.heap.objs.size + 1) :: (vs ++ dvs)) (Value.ref (s.heap.objs.size + 1) :: (us ++ ds)) := .cons rfl (r.append hd)
  have hl : (Value.ref (s.heap.objs.size + 1) :: us ++ ds).length = ps.length := by
    have e := r2.length
    rw [F.len _ _ _ _ hq] at e
    exact e.symm
  refine wpAny_call (make_map (f := f) I.kIn M.makes M.init (beq_iff_eq.mp M.fn) (codeAny_mono (F.run _ X.stack _ _ ⟨Value.ref (s.heap.objs.size + 1) :: us, []⟩ (Value.ref (s.heap.objs.size + 1) :: (us ++ ds)) _ _ E (hr.make C us [])
    (I2.env0.make C us []) (hb _ (Value.ref (s.heap.objs.size + 1) :: us) I2.kIn hl) r2 hq) fun r s' hq' => ?_))
  cases r with
  | error e => exact hx pins σ _ _ e s' I2 hq'
  | ok fl =>
    cases fl with
    | ret u =>
      obtain ⟨v, H', I3, rv, ev, q3⟩ := I2.after hq'
      subst ev
      exact ⟨rv, ⟨V.ref (s.heap.objs.size + 1), H', I3, rfl, q3⟩⟩
    | next => exact False.elim hq'
    | brk => exact False.elim hq'
    | cont => exact False.elim hq'
theorem pe_make (M : Mk X.K C f) (F : FnOk X.prog X.w X.K X.mg X.base CX k f fd ps sp) (hr : Room (k + 1) X.A) (hg : Gl X x) (hm : X.mg x = some (.ref C)) (hb : Binds X.K fd ps ds) (hd : Vals dvs ds) (hx : Passes CX X E)
    (ha : PA X (e :: es) t) (hdb : (x == ("__debug__" : Str)) = false := by decide) (he : starEach (e :: es) X.env = (false, eval e X.env) :: starEach es X.env := by rfl) (hpl : (backTo pos (starEach es X.env)).any (·.1) = false := by rfl) :
    PE X (.Call (.Name x p) (e :: es) [] pos) (tMake C sp dvs E t) := by
  intro pins s σ H Q I h
  refine wpAny_Call_Name_kw (ld_glob I hg hm ?_ hdb)
  refine PySem.W.callWith_K (h₀ := X.base) I.ok.mod.kin M.kp (thn (ha pos pins s σ H _ I h) fun us s1 ⟨vs, H1, I1, r, q⟩ => ⟨I1.kIn, ?_⟩) he hpl
  exact run_make M F hr hb hd hx I1 r q
end
/-! ### keywords -/
/-- the values of the keywords, from the left -/
def PK (X : Cx) (kws : List Keyword) (t : TA) : Prop :=
  ∀ (pos : Pos) (pins : List (Addr × Obj)) (s : Shared) (σ : St) (H : Hp) (Q : List V → Hp → Prop), Inv X pins σ H s → t σ H Q → wpAny (model X.prog X.w) X.A (evalAll ((backToKw pos (keywordEach kws X.env)).map (·.2))) (AP X pins σ Q) X.xe s
section
variable {X : Cx} {CX : CXT} {k : Nat} {f C : Addr} {fd : FuncData} {ps ks : List Str} {sp : Sp} {E : XK} {x m : Str} {p pos apos kpos : Pos} {e o : Expr} {es : List Expr} {kws : List Keyword} {te ta : TE} {t tk : TA} {nm : Option Str}
/-- how a call with keywords binds: g puts the positional values us and the keywords' values ws (names ks) in the parameters' order, defaults among them -/
structure KBinds (K : PySem.W.Frag) (fd : FuncData) (ps ks : List Str) (g : List Value → List Value → List Value) (gV : List V → List V → List V) : Prop where
  to : ∀ (s : Shared) (us ws : List Value), K.In s.heap → (g us ws).length = ps.length → BindsTo s fd ⟨us, ks.zip ws⟩ (ps.zip (g us ws))
  rel : ∀ {vs : List V} {us : List Value} {zs : List V} {ws : List Value}, Vals vs us → Vals zs ws → Vals (gV vs zs) (g us ws)
variable {g : List Value → List Value → List Value} {gV : List V → List V → List V}
end
/-! ### a def's body keeps its promise -/
/-- names: the parameters first -/
structure FnScope (N P : List Str) (sc : Scope) : Prop where
  kind : sc.kind = .function
  co : sc.isCoroutine = false
  gen : sc.isGenerator = false
  nd : N.Nodup
  pre : N.take P.length = P
  par : ∀ x ∈ P, sc.names.lookup x = some .local ∨ sc.names.lookup x = some .cell
  nofree : ∀ y ∈ sc.names, y.2 ≠ .free
theorem bindL_out {kindOf : Str → Option NameKind} {x : Str} : ∀ {binds : List (Str × Value)} {m : Str → Option Value}, (∀ v, (x, v) ∉ binds) → bindL kindOf binds m x = m x
  | [], _, _ => rfl
  | (n, v) :: r, m, h => by
    unfold bindL
    rw [bindL_out fun w hw => h w (List.mem_cons_of_mem _ hw)]
    split
    · have : x ≠ n := by rintro rfl; exact h v List.mem_cons_self
      simp [this]
    · rfl
theorem bindC_out {kindOf : Str → Option NameKind} {x : Str} : ∀ {binds : List (Str × Value)} {m : Str → Option Value}, (∀ v, (x, v) ∉ binds) → bindC kindOf binds m x = m x
  | [], _, _ => rfl
  | (n, v) :: r, m, h => by
    unfold bindC
    rw [bindC_out fun w hw => h w (List.mem_cons_of_mem _ hw)]
    split
    · rfl
    · have : x ≠ n := by rintro rfl; exact h v List.mem_cons_self
      simp [this]
theorem bindL_get {kindOf : Str → Option NameKind} {x : Str} {v : Value} : ∀ {P : List Str} {vs : List Value} {i : Nat} {m : Str → Option Value}, P.Nodup → P[i]? = some x → vs[i]? = some v → kindOf x = some .local →
    bindL kindOf (P.zip vs) m x = some v
  | [], _, _, _, _, h, _, _ => by simp at h
  | _ :: _, [], _, _, _, _, h, _ => by simp at h
  | p :: P, w :: vs, 0, m, nd, h1, h2, hk => by
    simp at h1 h2; subst h1; subst h2
    show bindL kindOf ((p, w) :: P.zip vs) m p = _
    unfold bindL
    rw [bindL_out fun v hv => (List.nodup_cons.mp nd).1 (List.of_mem_zip hv).1, if_pos hk]
    simp
  | p :: P, w :: vs, i + 1, m, nd, h1, h2, hk => by
    show bindL kindOf ((p, w) :: P.zip vs) m x = _
    unfold bindL
    exact bindL_get (i := i) (List.nodup_cons.mp nd).2 (by simpa using h1) (by simpa using h2) hk
theorem bindC_get {kindOf : Str → Option NameKind} {x : Str} {v : Value} : ∀ {P : List Str} {vs : List Value} {i : Nat} {m : Str → Option Value}, P.Nodup → P[i]? = some x → vs[i]? = some v → kindOf x ≠ some .local →
    bindC kindOf (P.zip vs) m x = some v
  | [], _, _, _, _, h, _, _ => by simp at h
  | _ :: _, [], _, _, _, _, h, _ => by simp at h
  | p :: P, w :: vs, 0, m, nd, h1, h2, hk => by
    simp at h1 h2; subst h1; subst h2
    show bindC kindOf ((p, w) :: P.zip vs) m p = _
    unfold bindC
    rw [bindC_out fun v hv => (List.nodup_cons.mp nd).1 (List.of_mem_zip hv).1, if_neg hk]
    simp
  | p :: P, w :: vs, i + 1, m, nd, h1, h2, hk => by
    show bindC kindOf ((p, w) :: P.zip vs) m x = _
    unfold bindC
    exact bindC_get (i := i) (List.nodup_cons.mp nd).2 (by simpa using h1) (by simpa using h2) hk
/-- the names' values at the entry -/
def start (N : List Str) (vs : List V) : St := vs.map some ++ List.replicate (N.length - vs.length) none
/-- the context of a def's body, at its entry; an exception leaves the frame, then lies as CX says -/
def cxOf (CX : CXT) (P : Program) (w : World) (K : PySem.W.Frag) (mg : Str → Option Value) (base : Heap) (N : List Str) (qual : Str) (scope : Scope) (f : Addr) (cd : Value) (A : Around) (outer : List Env) (s : Shared) (H : Hp) (E : XK) : Cx where
  prog := P
  w := w
  K := K
  mg := mg
  base := base
  A := A.deeper (envOfC qual scope s.heap.objs.size f cd)
  N := N
  s_0 := s
  H_0 := H
  env := envOfC qual scope s.heap.objs.size f cd
  outer := outer
  stack := envOfC qual scope s.heap.objs.size f cd :: outer
  ex := []
  calm := true
  fn := fun _ => true
  pn := []
  xe := fun e s' => wpAny (model P w) (A.deeper (envOfC qual scope s.heap.objs.size f cd)) (leaving (envOfC qual scope s.heap.objs.size f cd) e) (fun _ s'' => CX outer H s E e s'') (fun e' s'' => CX outer H s E e' s'') s'
theorem cell_has {sc : Scope} {n : Nat} {x : Str} (h : sc.names.lookup x = some .cell) : ∃ c, (cellsFrom n sc.names []).lookup x = some c := by
  have q := PySem.W.cellsFrom_some sc.names n [] (.inl h)
  exact Option.isSome_iff_exists.mp q
theorem inv_start {CX : CXT} {P : Program} {w : World} {K : PySem.W.Frag} {mg : Str → Option Value} {base : Heap} {N ps : List Str} {qual : Str} {scope : Scope} {f : Addr} {cd : Value} {A : Around} {outer : List Env} {s s1 : Shared} {H : Hp} {E : XK} {us : List Value} {vs : List V}
    (S : FnScope N ps scope) (hd : A.handled = none) (e0 : Env0 P w K mg base A outer s H) (hl : vs.length = ps.length) (r : Vals vs us)
    (x : InCallC s s.heap.objs.size (bindL (envOfC qual scope s.heap.objs.size f cd).kindOf (ps.zip us) fun _ => none) (cellsFrom (s.heap.objs.size + 1) scope.names []) (bindC (envOfC qual scope s.heap.objs.size f cd).kindOf (ps.zip us) fun _ => none) s1) :
    Inv (cxOf CX P w K mg base N qual scope f cd A outer s H E) [] (start N vs) H s1 := by
  have hpl : ps.length ≤ N.length := by have := congrArg List.length S.pre; rw [List.length_take] at this; omega
  obtain ⟨h1, tk, rfl, hk⟩ := x.done
  have noA : ∀ b : Addr, b ∉ (cxOf CX P w K mg base N qual scope f cd A outer s H E).ex := fun b z => absurd (show b ∈ ([] : List Addr) from z) (by simp)
  refine ⟨⟨e0.mod, S.kind, rfl, rfl, Nat.le_refl _, fun y z c h1 h2 => ?_, fun y hy => ?_, fun y c _ h => ?_, fun _ => hd, Around.frames_deeper e0.frames, .inr ⟨rfl, rfl⟩, fun b z => absurd z (noA b), e0.bs, e0.bsz, fun b _ _ => noA b, fun b z => absurd z (noA b), e0.funs, e0.frf⟩,
    rfl, e0.bare, Un.kept hk, ⟨_, x.toInCall.ns, fun i y v h1 h2 h3 => ?_⟩, fun y c h => ⟨_, x.cell y c h⟩, e0.hok.fresh (Nat.le_refl _), fun y c h => ?_, fun p hp => absurd (show p ∈ ([] : List (Addr × Obj)) from hp) (by simp), e0.hok.kept hk, ?_⟩
  · exact name_of_addr x.apart (PySem.mem_of_lookup h1) (PySem.mem_of_lookup h2)
  · have hy : scope.names.lookup y = some .cell ∨ scope.names.lookup y = some .free := hy
    rcases hy with hy | hy
    · exact cell_has hy
    · exact absurd rfl (S.nofree _ (PySem.mem_of_lookup hy))
  · exact Nat.le_of_lt (x.above y c (PySem.mem_of_lookup h))
  · have hi : i < vs.length := by
      unfold start at h2
      by_cases hi : i < vs.length
      · exact hi
      · rw [List.getElem?_append_right (by simpa using hi)] at h2
        rw [List.getElem?_replicate] at h2
        split at h2 <;> cases h2
    have ha : vs[i]? = some v := by
      unfold start at h2
      rw [List.getElem?_append_left (by simpa using hi), List.getElem?_map] at h2
      cases e : vs[i]? with
      | none => rw [e] at h2; cases h2
      | some a => rw [e] at h2; cases h2; rfl
    obtain ⟨u, hu, rv⟩ := r.get ha
    have hp : ps[i]? = some y := by
      rw [← S.pre, List.getElem?_take_of_lt (by omega)]; exact h1
    have ndP : ps.Nodup := by rw [← S.pre]; exact S.nd.sublist (List.take_sublist _ _)
    refine ⟨u, rv, ?_⟩
    rcases S.par y (List.mem_of_getElem? hp) with k | k
    · exact .inl ⟨k, bindL_get ndP hp hu k⟩
    · obtain ⟨c, e⟩ := cell_has (n := s.heap.objs.size + 1) k
      refine .inr ⟨.inl k, c, e, ?_⟩
      have q := x.cell y c e
      rw [bindC_get ndP hp hu (by show scope.names.lookup y ≠ _; rw [k]; decide)] at q
      exact q
  · exact e0.hok.fresh (Nat.le_of_lt (x.above y c (PySem.mem_of_lookup h)))
  · unfold start
    show _ = N.length
    rw [List.length_append, List.length_map, List.length_replicate]
    omega
/-- THE RULE: a def (or a method) of the text, by its body. The body's reading t is chosen for each entry; it is run at the parameters' values -/
theorem fn_of {CX : CXT} {P : Program} {w : World} {K : PySem.W.Frag} {mg : Str → Option Value} {base : Heap} {k : Nat} {f : Addr} {name qual : Str} {params : Arguments} {body : List Stmt} {scope : Scope} {dV kV doc pm cdv ct oc : Value} {an od : Option Addr}
    {osl : Array (Option Value)} {N ps : List Str} {sp : Sp} (lk : K.lookup f = some ⟨oc, od, .func (PySem.W.fnOf name qual params body scope dV kV doc pm an cdv ct), osl⟩) (hcd : PySem.W.codeIn K cdv qual = true) (S : FnScope N ps scope)
    (len : ∀ vs H Q E, sp vs H Q E → vs.length = ps.length)
    (hbody : ∀ (A : Around) (outer : List Env) (s : Shared) (H : Hp) (vs : List V) (Q : VK) (E : XK), Room k (A.deeper (envOfC qual scope s.heap.objs.size f cdv)) → sp vs H Q E →
      ∃ t, PSs (cxOf CX P w K mg base N qual scope f cdv A outer s H E) body t ∧ t { nx := fun _ H' => Q .non H', rt := Q } (start N vs) H) :
    FnOk P w K mg base CX (k + 1) f (PySem.W.fnOf name qual params body scope dV kV doc pm an cdv ct) ps sp := by
  refine ⟨len, fun A outer s H args us vs Q E hr e0 hb r hsp => ?_⟩
  have hl := len _ _ _ _ hsp
  have KX : K.In s.heap := e0.mod.kin.keeps fun b o e => (e0.bs b o e).1
  have lim : s.heap.NoLimit := e0.mod.nolimit.keeps fun b o e => (e0.bs b o e).1
  have hkind : ∀ y ∈ ps.zip us, scope.names.lookup y.1 = some .local ∨ (scope.names.lookup y.1 = some .cell ∧ ((cellsFrom (s.heap.objs.size + 1) scope.names []).lookup y.1).isSome = true) := fun ⟨n, v⟩ hy => by
    rcases S.par n (List.of_mem_zip hy).1 with q | q
    · exact .inl q
    · exact .inr ⟨q, PySem.W.cellsFrom_some _ _ _ (.inl q)⟩
  refine codeAny_call_function hr.depth (KX _ _ lk) rfl S.co S.gen rfl (PySem.W.codeRec_of KX hcd) (hb _ _ _ _ ?_)
  refine wpAny_newFunctionEnv_cells S.kind hkind fun env he s1 x => ?_
  subst he
  refine ⟨lim.keeps x.toInCall.keep, codeAny_func ?_⟩
  obtain ⟨t, ht, hq⟩ := hbody A outer s H vs Q E (hr.deeper _) hsp
  have I : Inv (cxOf CX P w K mg base N qual scope f cdv A outer s H E) [] (start N vs) H s1 := inv_start S hr.hd e0 hl r x
  refine wpAny_mono (ht [] s1 (start N vs) H _ I hq) (fun fl s' hs => ?_) fun e s' hs => hs
  have fin : ∀ {σ' : St} {H' : Hp} {v : V} {u : Value}, Inv (cxOf CX P w K mg base N qual scope f cdv A outer s H E) [] σ' H' s' → RelV v u → Q v H' → CE outer P w H s Q u s' :=
    fun {σ' H' v u} J rv q => ⟨v, H', J.os, J.bare, J.base, J.hok, rv, q⟩
  cases fl with
  | ret u =>
    obtain ⟨v, σ', H', J, rv, q⟩ := hs
    exact fin J rv q
  | next =>
    obtain ⟨σ', H', J, q⟩ := hs
    exact fin (v := V.non) (u := Value.none) J rfl q
  | brk =>
    obtain ⟨_, _, _, q⟩ := hs
    exact False.elim q
  | cont =>
    obtain ⟨_, _, _, q⟩ := hs
    exact False.elim q
end L2
namespace L2
open PySem PySem.Spec PyProof.Rows
section
variable {X : Cx} {x : Str} {p pos : Pos} {e : Expr} {es : List Expr} {t : TA} {id T : String} {r : List V → Hp → VK → Prop}
def tCB (r : List V → Hp → VK → Prop) (t : TA) : TE := fun σ H Q => t σ H fun vs H1 => r vs H1 Q
/-- f(e, ..), f a built-in function -/
theorem pe_callB (hc : CallR X (.builtin id) r) (hg : Gl X x) (hm : X.mg x = none) (hv : bootBuiltins x = some (.builtin id)) (ha : PA X (e :: es) t) (hn : x ≠ "__name__" := by decide) (hdb : (x == ("__debug__" : Str)) = false := by decide)
    (he : starEach (e :: es) X.env = (false, eval e X.env) :: starEach es X.env := by rfl) (hpl : (backTo pos (starEach es X.env)).any (·.1) = false := by rfl) : PE X (.Call (.Name x p) (e :: es) [] pos) (tCB r t) := by
  intro pins s σ H Q I h
  refine wpAny_Call_Name_kw (ld_blt I hg hm hv ?_ hn hdb)
  exact PyProof.Rows.callWith_builtin1 (thn (ha pos pins s σ H _ I h) fun us s1 ⟨vs, H1, I1, r1, q1⟩ => hc pins s1 σ H1 vs us Q I1 r1 q1) he hpl
/-- T(e, ..), T a built-in type -/
theorem pe_callTy (hc : CallR X (.type T) r) (hg : Gl X x) (hm : X.mg x = none) (hv : bootBuiltins x = some (.type T)) (ha : PA X (e :: es) t) (hn : x ≠ "__name__" := by decide) (hdb : (x == ("__debug__" : Str)) = false := by decide)
    (he : starEach (e :: es) X.env = (false, eval e X.env) :: starEach es X.env := by rfl) (hpl : (backTo pos (starEach es X.env)).any (·.1) = false := by rfl) : PE X (.Call (.Name x p) (e :: es) [] pos) (tCB r t) := by
  intro pins s σ H Q I h
  refine wpAny_Call_Name_kw (ld_blt I hg hm hv ?_ hn hdb)
  exact PyProof.Rows.callWith_type1 (thn (ha pos pins s σ H _ I h) fun us s1 ⟨vs, H1, I1, r1, q1⟩ => hc pins s1 σ H1 vs us Q I1 r1 q1) he hpl
end
end L2
namespace HT
open PySem PyProof.Rows
section
open PySem.SeqAt
open PySem.AutoSeq1 (wpAny_loadPart')
open PySem.MeetsSeq PySem.MeetsSeq2 PySem.MeetsSeq3
end
section
variable {prog : Program} {w : World} {A : Around} {E : Value → Shared → Prop} {s : Shared}
/-! ### t[a:b], not the whole -/
/-- a slice's bound as a place among n (d where it is left out) -/
def sIx (n d : Nat) : Option Int → Nat
  | none => d
  | some v => if v < 0 then (v + (n : Int)).toNat else min v.toNat n
end
end HT
namespace L2
open PySem PySem.Spec PyProof.Rows
/-! ### the parts of a slice -/
abbrev TO := St → Hp → (Option Int → Hp → Prop) → Prop
/-- a slice's part (left out, or an int) -/
def PO (X : Cx) (e : Option Expr) (t : TO) : Prop :=
  ∀ (pins : List (Addr × Obj)) (s : Shared) (σ : St) (H : Hp) (Q : Option Int → Hp → Prop), Inv X pins σ H s → t σ H Q →
    wpAny (model X.prog X.w) X.A (evalPart e X.env) (fun u s' => ∃ o H', Inv X pins σ H' s' ∧ IsPart u o ∧ Q o H') X.xe s
def tNoPart : TO := fun _ H Q => Q none H
def tPart (t : TE) : TO := fun σ H Q => t σ H fun x H1 => ∃ i, x = .int i ∧ Q (some i) H1
section
variable {X : Cx} {e : Expr} {te : TE} {lo hi : Option Expr} {tl th : TO} {pos p2 : Pos}
theorem po_none : PO X none tNoPart := by
  intro pins s σ H Q I h
  rw [evalPart_none]
  exact wpAny_pure ⟨none, H, I, .none, h⟩
theorem po_some (h : PE X e te) : PO X (some e) (tPart te) := by
  intro pins s σ H Q I hw
  rw [evalPart_some]
  refine thn (h pins s σ H _ I hw) fun u s1 ⟨x, H1, I1, r1, q1⟩ => ?_
  obtain ⟨i, rfl, q⟩ := q1
  obtain ⟨t, rfl⟩ := r1
  exact ⟨some i, H1, I1, .int i t, q⟩
/-- what a slice of a value is, by values: the slice object stands at sl -/
def SlR (X : Cx) (r : V → Option Int → Option Int → Hp → VK → Prop) : Prop :=
  ∀ (pins : List (Addr × Obj)) (s : Shared) (σ : St) (H : Hp) (x : V) (v vl vu : Value) (lo hi : Option Int) (sl : Addr) (Q : VK), Inv X pins σ H s → RelV x v → s.heap.IsSliceOf sl vl vu .none → IsPart vl lo → IsPart vu hi → r x lo hi H Q →
    ∃ T id, typeLookup (.type T) "__getitem__" = pure (some (.builtin id)) ∧ s.TypeIs v T ∧ wpAny (model X.prog X.w) X.A (getItem v (.ref sl)) (EP X pins σ Q) X.xe s
theorem SlR.or {r r' : V → Option Int → Option Int → Hp → VK → Prop} (h : SlR X r) (h' : SlR X r') : SlR X (fun x lo hi H Q => r x lo hi H Q ∨ r' x lo hi H Q) := by
  intro pins s σ H x v vl vu lo hi sl Q I rx hs pl pu q
  rcases q with q | q
  · exact h pins s σ H x v vl vu lo hi sl Q I rx hs pl pu q
  · exact h' pins s σ H x v vl vu lo hi sl Q I rx hs pl pu q
def tSl (r : V → Option Int → Option Int → Hp → VK → Prop) (te : TE) (tl th : TO) : TE := fun σ H Q => te σ H fun x H1 => tl σ H1 fun l H2 => th σ H2 fun u H3 => r x l u H3 Q
/-- a[lo:hi], any a -/
theorem pe_slice {r : V → Option Int → Option Int → Hp → VK → Prop} (hr : SlR X r) (he : PE X e te) (hl : PO X lo tl) (hu : PO X hi th) : PE X (.Subscript e (.Slice lo hi none p2) pos) (tSl r te tl th) := by
  intro pins s σ H Q I h
  refine Subscript_ (thn (he pins s σ H _ I h) fun v s1 ⟨x, H1, I1, r1, q1⟩ => ?_)
  refine wpAny_Slice (thn (hl pins s1 σ H1 _ I1 q1) fun vl s2 ⟨l, H2, I2, pl, q2⟩ => thn (hu pins s2 σ H2 _ I2 q2) fun vu s3 ⟨u, H3, I3, pu, q3⟩ => ?_)
  rw [evalPart_none]
  refine wpAny_pure ?_
  have I4 : Inv X pins σ H3 { s3 with heap := s3.heap.push { cls := .type "slice", data := .fields #[vl, vu, .none] } } := I3.kept (t' := s3.toks) fun b ob q => Heap.get?_push_of_some _ q
  obtain ⟨T, id, hT, ht, hg⟩ := hr pins { s3 with heap := s3.heap.push { cls := .type "slice", data := .fields #[vl, vu, .none] } } σ H3 x v vl vu l u s3.heap.objs.size Q I4 r1 (Heap.IsSliceOf.new ..) pl pu q3
  show wpAny (model X.prog X.w) X.A (subscriptTail e (.Slice lo hi none p2) v (.ref s3.heap.objs.size)) (EP X pins σ Q) X.xe { s3 with heap := s3.heap.push { cls := .type "slice", data := .fields #[vl, vu, .none] } }
  exact tail_any (ops := [.ref s3.heap.objs.size, v]) ht hT hg (by with_unfolding_all rfl)
/-- the items of xs[lo:hi] -/
def cutV (xs : List V) (lo hi : Option Int) : List V := (xs.drop (HT.sIx xs.length 0 lo)).take (HT.sIx xs.length xs.length hi - HT.sIx xs.length 0 lo)
theorem cutV_length (xs : List V) (lo hi : Option Int) : (cutV xs lo hi).length ≤ xs.length := by
  unfold cutV
  rw [List.length_take, List.length_drop]
  omega
/-! ### t < u, t + u -/
end
end L2
namespace L2
open PySem PySem.Spec PyProof.Rows
/-! ### places -/
/-- the place that an index of any sign means -/
def ixN (n : Nat) (i : Int) : Option Nat := if 0 ≤ i then (if i < n then some i.toNat else none) else if -(n : Int) ≤ i then some (i + n).toNat else none
def atI {α : Type} (xs : List α) (i : Int) : Option α := (ixN xs.length i).bind fun j => xs[j]?
theorem ixN_seq {n : Nat} {i : Int} {j : Nat} (h : ixN n i = some j) : seqIndex? i n = some j ∧ j < n ∧ -(n : Int) ≤ i ∧ i < n := by
  unfold ixN at h
  by_cases h0 : 0 ≤ i
  · rw [if_pos h0] at h
    by_cases h1 : i < n
    · rw [if_pos h1] at h
      have e : i.toNat = j := Option.some.inj h
      exact ⟨by rw [seqIndex_of h0 h1, e], by omega, by omega, h1⟩
    · rw [if_neg h1] at h; cases h
  · rw [if_neg h0] at h
    by_cases h1 : -(n : Int) ≤ i
    · rw [if_pos h1] at h
      have e : (i + n).toNat = j := Option.some.inj h
      exact ⟨by rw [seqIndex_neg (by omega) h1, e], by omega, h1, by omega⟩
    · rw [if_neg h1] at h; cases h
theorem atI_get {α : Type} {xs : List α} {i : Int} {v : α} (h : atI xs i = some v) : ∃ j, seqIndex? i xs.length = some j ∧ xs[j]? = some v ∧ j < xs.length ∧ -(xs.length : Int) ≤ i ∧ i < xs.length := by
  unfold atI at h
  cases e : ixN xs.length i with
  | none => rw [e] at h; cases h
  | some j =>
    rw [e] at h
    obtain ⟨h1, h2, h3, h4⟩ := ixN_seq e
    exact ⟨j, h1, h, h2, h3, h4⟩
/-! ### what may be subscripted -/
/-- what stands as an index of a plain subscript -/
def PlainIx (b : Expr) : Prop := ∀ o i, subscripted b false o i = operate [o, i] (getItem o i)
/-- a subscript by values -/
def IxR (X : Cx) (r : R2) : Prop :=
  ∀ (value slice : Expr) (pins : List (Addr × Obj)) (s : Shared) (σ : St) (H : Hp) (x y : V) (v u : Value) (Q : VK), Inv X pins σ H s → RelV x v → RelV y u → r x y H Q →
    subscripted slice false v u = operate [v, u] (getItem v u) → wpAny (model X.prog X.w) X.A (subscriptTail value slice v u) (EP X pins σ Q) X.xe s
/-- a call of a builtin's method by values: the receiver, the arguments -/
def MtR (X : Cx) (id : String) (r : V → List V → Hp → VK → Prop) : Prop :=
  ∀ (pins : List (Addr × Obj)) (s : Shared) (σ : St) (H : Hp) (x : V) (xs : List V) (v : Value) (us : List Value) (Q : VK), Inv X pins σ H s → RelV x v → Vals xs us → r x xs H Q →
    wpAny (model X.prog X.w) X.A (call (.builtin id) (v :: us)) (EP X pins σ Q) X.xe s
section
variable {X : Cx} {a b : Expr} {ta tb : TE} {pos : Pos}
theorem IxR.or {r r' : R2} (h : IxR X r) (h' : IxR X r') : IxR X (fun x y H Q => r x y H Q ∨ r' x y H Q) := by
  intro value slice pins s σ H x y v u Q I rx ry q hs
  rcases q with q | q
  · exact h value slice pins s σ H x y v u Q I rx ry q hs
  · exact h' value slice pins s σ H x y v u Q I rx ry q hs
theorem MtR.or {id : String} {r r' : V → List V → Hp → VK → Prop} (h : MtR X id r) (h' : MtR X id r') : MtR X id (fun x xs H Q => r x xs H Q ∨ r' x xs H Q) := by
  intro pins s σ H x xs v us Q I rx rs q
  rcases q with q | q
  · exact h pins s σ H x xs v us Q I rx rs q
  · exact h' pins s σ H x xs v us Q I rx rs q
/-- a[b] -/
theorem pe_ix {r : R2} (hr : IxR X r) (ha : PE X a ta) (hb : PE X b tb) (hs : PlainIx b) : PE X (.Subscript a b pos) (tOp r ta tb) := by
  intro pins s σ H Q I h
  exact Subscript_ (binT ha hb I h fun v u s2 x y H2 I2 rx ry q => hr a b pins s2 σ H2 x y v u Q I2 rx ry q (hs _ _))
def rIxL (K : PySem.W.Frag) : R2 := fun x y H Q => ∃ p xs i v, x = .ref p ∧ y = .int i ∧ SqL K H p xs ∧ atI xs i = some v ∧ Q v H
def rIxT (K : PySem.W.Frag) : R2 := fun x y H Q => ∃ p xs i v, x = .ref p ∧ y = .int i ∧ SqT K H p xs ∧ atI xs i = some v ∧ Q v H
def rIxS : R2 := fun x y H Q => ∃ z i c, x = .str z ∧ y = .int i ∧ z.length ≤ sizeLine ∧ atI z.cps.toList i = some c ∧ Q (.str ⟨#[c]⟩) H
theorem ix_list : IxR X (rIxL X.K) := by
  intro value slice pins s σ H x y v u Q I rx ry h hs
  obtain ⟨p, xs, i, z, rfl, rfl, hq, he, q⟩ := h
  cases rx
  obtain ⟨t, rfl⟩ := ry
  obtain ⟨its, r, pl, hz⟩ := I.list hq
  obtain ⟨j, h1, h2, h3, h4, h5⟩ := atI_get he
  obtain ⟨w, ew, rw'⟩ := r.get h2
  have hl := r.length
  have hn := line63
  have fin : EP X pins σ Q w s := ⟨z, H, I, rw', q⟩
  by_cases h0 : 0 ≤ i
  · have hj : i.toNat = j := by
      rw [seqIndex_of h0 h5] at h1
      exact Option.some.inj h1
    exact item_listR pl.isList h0 (by omega) (by rw [hj]; simpa using ew) fin hs
  · have hj : (i + (its.toArray.size : Int)).toNat = j := by
      rw [seqIndex_neg (by omega) h4] at h1
      rw [List.size_toArray, ← hl]
      exact Option.some.inj h1
    exact subscriptTail_builtinR (x := w) pl.isList.typeIs slot_list_getitem.lookup
      (wpAny_getItem_list_neg (Q := fun r s' => r = w ∧ EP X pins σ Q r s') pl.isList (by omega) (by rw [List.size_toArray] <;> omega) (by omega) (by rw [hj]; simpa using ew) ⟨rfl, fin⟩) hs
theorem ix_tup : IxR X (rIxT X.K) := by
  intro value slice pins s σ H x y v u Q I rx ry h hs
  obtain ⟨p, xs, i, z, rfl, rfl, hq, he, q⟩ := h
  cases rx
  obtain ⟨t, rfl⟩ := ry
  obtain ⟨its, r, pl, hz⟩ := I.tuple hq
  obtain ⟨j, h1, h2, h3, h4, h5⟩ := atI_get he
  obtain ⟨w, ew, rw'⟩ := r.get h2
  have hl := r.length
  have hn := line63
  have fin : EP X pins σ Q w s := ⟨z, H, I, rw', q⟩
  exact subscriptTail_builtinR (x := w) pl.typeIs slot_tuple_getitem.lookup
    (getItem_tuple (j := j) (Q := fun r s' => r = w ∧ EP X pins σ Q r s') pl (by omega) (by omega) (by rw [List.size_toArray, ← hl]; exact h1) (by simpa using ew) ⟨rfl, fin⟩) hs
theorem ix_str : IxR X rIxS := by
  intro value slice pins s σ H x y v u Q I rx ry h hs
  obtain ⟨z, i, c, rfl, rfl, hz, he, q⟩ := h
  obtain ⟨t, rfl⟩ := rx
  obtain ⟨t', rfl⟩ := ry
  obtain ⟨j, h1, h2, h3, h4, h5⟩ := atI_get he
  have hl : z.cps.toList.length = z.length := by simp [Str.length]
  rw [hl] at h1 h4 h5
  have hn := line63
  exact tail_any (typeIs_str s z t) slot_str_getitem.lookup (getItem_str (c := c) (by
    have e1 : decide (i < -(2 ^ 63 : Int)) = false := decide_eq_false (by omega)
    have e2 : decide (i ≥ 2 ^ 63) = false := decide_eq_false (by omega)
    rw [e1, e2, Bool.or_false]) (by rw [h1]; simpa using h2) ⟨.str ⟨#[c]⟩, H, I.tok _, ⟨_, rfl⟩, q⟩) hs
/-- list, tuple or str -/
def rIx (K : PySem.W.Frag) : R2 := fun x y H Q => rIxL K x y H Q ∨ rIxT K x y H Q ∨ rIxS x y H Q
theorem ix_seq : IxR X (rIx X.K) := ix_list.or (ix_tup.or ix_str)
/-! ### xs[i] = v, any sign -/
/-- the list's object behind a store -/
theorem mapSeq_set (its : List Value) (n j : Nat) (u : Value) : Obj.mapSeq (·.setIfInBounds j u) { cls := .type "list", data := .seq its.toArray n } = { cls := .type "list", data := .seq (its.set j u).toArray n } := by
  simp [Obj.mapSeq]
theorem Inv.lst {pins : List (Addr × Obj)} {σ : St} {H : Hp} {s : Shared} {p : Addr} {xs : List V} (I : Inv X pins σ H s) (h : H p = some (.lst xs)) :
    ∃ (its : List Value) (n : Nat), Vals xs its ∧ s.heap.get? p = some { cls := .type "list", data := .seq its.toArray n } ∧ xs.length ≤ sizeLine := by
  obtain ⟨z, its, n, r, e⟩ := I.hok p _ h
  exact ⟨its, n, r, e, z⟩
/-- the list at p is written by an update of its object -/
theorem Inv.lstUpd {pins : List (Addr × Obj)} {σ : St} {H : Hp} {s : Shared} {p : Addr} {xs ys : List V} {its its' : List Value} {n n' : Nat} {f : Obj → Obj} (I : Inv X pins σ H s) (h : H p = some (.lst xs))
    (ho : s.heap.get? p = some { cls := .type "list", data := .seq its.toArray n }) (hf : f { cls := .type "list", data := .seq its.toArray n } = { cls := .type "list", data := .seq its'.toArray n' }) (r : Vals ys its') (hz : ys.length ≤ sizeLine) (t : Nat) :
    Inv X pins σ (upd H p (.lst ys)) { s with heap := s.heap.update p f, toks := t } := by
  have e : (s.heap.update p f).get? p = some { cls := .type "list", data := .seq its'.toArray n' } := by
    rw [Heap.get?_update_self f ho (by rw [hf] <;> rfl), hf]
  refine I.write (x := p) (e := p) (by rw [h]; trivial) (.inl rfl) (fun b u hb q => (Heap.get?_update_other _ _ (Ne.symm hb)).trans q) ⟨_, e⟩ ?_
  exact ⟨hz, its', n', r, e⟩
def rSetL : V → V → V → Hp → (Hp → Prop) → Prop := fun o i v H Q => ∃ p xs k j, o = .ref p ∧ i = .int k ∧ H p = some (.lst xs) ∧ ixN xs.length k = some j ∧ Q (upd H p (.lst (xs.set j v)))
theorem set_list : PSet X rSetL := by
  intro pins s σ H o i v ov iv u Q I ro ri rv h
  obtain ⟨p, xs, k, j, rfl, rfl, hp, hj, q⟩ := h
  cases ro
  obtain ⟨t, rfl⟩ := ri
  obtain ⟨its, n, r, ho, hz⟩ := I.lst hp
  obtain ⟨h1, h2, h3, h4⟩ := ixN_seq hj
  have hl := r.length
  have hn := line63
  have I' : Inv X pins σ (upd H p (.lst (xs.set j v))) { s with heap := s.heap.update p (Obj.mapSeq (·.setIfInBounds j u)) } :=
    I.lstUpd hp ho (mapSeq_set its n j u) (r.set rv j) (by rw [List.length_set]; exact hz) s.toks
  by_cases h0 : 0 ≤ k
  · have hk : k.toNat = j := by
      rw [seqIndex_of h0 h4] at h1
      exact Option.some.inj h1
    exact PySem.W.ki_setAt ho h0 (by omega) (by rw [List.size_toArray, ← hl]; exact h4) (by rw [hk]; exact ⟨_, I', q⟩)
  · have hk : (k + (its.toArray.size : Int)).toNat = j := by
      rw [seqIndex_neg (by omega) h3] at h1
      rw [List.size_toArray, ← hl]
      exact Option.some.inj h1
    exact PySem.W.ki_setBack ho (by omega) (by rw [List.size_toArray, ← hl]; exact h3) (by omega) (by rw [hk]; exact ⟨_, I', q⟩)
/-! ### slices -/
theorem slice_bounds (lo hi : Option Int) (n : Nat) : (sliceBounds lo hi none n).1 = ((HT.sIx n 0 lo : Nat) : Int) ∧ (sliceBounds lo hi none n).2.1 = ((HT.sIx n n hi : Nat) : Int) ∧ (sliceBounds lo hi none n).2.2 = 1 := by
  refine ⟨?_, ?_, rfl⟩
  · cases lo with
    | none => simp [sliceBounds, HT.sIx]
    | some i =>
      simp only [sliceBounds, HT.sIx, Option.getD_none, show (1 : Int) > 0 by decide, if_true]
      by_cases h : i < 0
      · simp only [h, if_true] <;> omega
      · simp only [h, if_false] <;> omega
  · cases hi with
    | none => simp [sliceBounds, HT.sIx]
    | some i =>
      simp only [sliceBounds, HT.sIx, Option.getD_none, show (1 : Int) > 0 by decide, if_true]
      by_cases h : i < 0
      · simp only [h, if_true] <;> omega
      · simp only [h, if_false] <;> omega
theorem slicePick_cut (its : List Value) (lo hi : Option Int) : slicePick its.toArray lo hi none = ((its.drop (HT.sIx its.length 0 lo)).take (HT.sIx its.length its.length hi - HT.sIx its.length 0 lo)).toArray := by
  obtain ⟨h1, h2, h3⟩ := slice_bounds lo hi its.toArray.size
  unfold slicePick
  rw [h1, h2, h3]
  simp only [sliceRange_one, pick_run, List.size_toArray] <;> rfl
/-- xs[lo:hi] of a list: a new list -/
def rSlL (K : PySem.W.Frag) : V → Option Int → Option Int → Hp → VK → Prop := fun x lo hi H Q => ∃ a xs, x = .ref a ∧ SqL K H a xs ∧ ∀ p, H p = none → Q (.ref p) (upd H p (.lst (cutV xs lo hi)))
theorem sl_list : SlR X (rSlL X.K) := by
  intro pins s σ H x v vl vu lo hi sl Q I rx hs pl pu h
  obtain ⟨a, xs, rfl, hx, q⟩ := h
  cases rx
  obtain ⟨its, r, ht, hz⟩ := I.list hx
  have hlen := r.length
  refine ⟨"list", _, slot_list_getitem.lookup, ht.isList.typeIs, ?_⟩
  refine wpAny_getItem_list_slice ht.isList hs pl pu .none (by simp) ?_ (by rw [List.size_toArray] <;> omega)
  rw [slicePick_cut, ← hlen]
  refine ⟨.ref s.heap.objs.size, _, I.laid (t' := s.toks) (o := .lst (cutV xs lo hi)) (fun b ob q => Heap.get?_push_of_some _ q) (Nat.le_refl _) ?_, rfl, q _ (I.hok.fresh (Nat.le_refl _))⟩
  exact ⟨Nat.le_trans (cutV_length xs lo hi) hz, _, 0, (r.drop (HT.sIx xs.length 0 lo)).take (HT.sIx xs.length xs.length hi - HT.sIx xs.length 0 lo), Heap.get?_push_size _ rfl⟩
/-! ### in, not in: flat items -/
def flatV : V → Bool
  | .non => true
  | .bl _ => true
  | .int _ => true
  | .str _ => true
  | _ => false
/-- == of flat values -/
def eqV : V → V → Bool
  | .non, .non => true
  | .bl a, .bl b => a == b
  | .bl a, .int b => (if a then 1 else 0) == b
  | .int a, .bl b => a == (if b then 1 else 0)
  | .int a, .int b => a == b
  | .str a, .str b => a == b
  | _, _ => false
theorem eqAt_V {A : Around} {s : Shared} {y x : V} {u v : Value} (ry : RelV y u) (rx : RelV x v) (fy : flatV y = true) (fx : flatV x = true) : SeqAt.EqAt A s u v (eqV y x) := by
  cases y with
  | non =>
    cases ry
    cases x with
    | non => cases rx; exact SeqAt.EqAt.same _
    | bl b => cases rx; exact SeqAt.EqAt.none_bool b
    | int b => obtain ⟨t, rfl⟩ := rx; exact SeqAt.EqAt.none_int b t
    | str b => obtain ⟨t, rfl⟩ := rx; exact SeqAt.EqAt.none_str b t
    | _ => exact absurd (show false = true from fx) Bool.false_ne_true
  | bl a =>
    cases ry
    cases x with
    | non => cases rx; exact SeqAt.EqAt.bool_none a
    | bl b => cases rx; exact SeqAt.EqAt.bool_bool a b
    | int b => obtain ⟨t, rfl⟩ := rx; exact SeqAt.EqAt.bool_int a b t
    | str b => obtain ⟨t, rfl⟩ := rx; exact SeqAt.EqAt.bool_str a b t
    | _ => exact absurd (show false = true from fx) Bool.false_ne_true
  | int a =>
    obtain ⟨t', rfl⟩ := ry
    cases x with
    | non => cases rx; exact SeqAt.EqAt.int_none a t'
    | bl b => cases rx; exact SeqAt.EqAt.int_bool a t' b
    | int b => obtain ⟨t, rfl⟩ := rx; exact SeqAt.EqAt.int_int a t' b t
    | str b => obtain ⟨t, rfl⟩ := rx; exact SeqAt.EqAt.int_str a t' b t
    | _ => exact absurd (show false = true from fx) Bool.false_ne_true
  | str a =>
    obtain ⟨t', rfl⟩ := ry
    cases x with
    | non => cases rx; exact SeqAt.EqAt.str_none a t'
    | bl b => cases rx; exact SeqAt.EqAt.str_bool a t' b
    | int b => obtain ⟨t, rfl⟩ := rx; exact SeqAt.EqAt.str_int a t' b t
    | str b => obtain ⟨t, rfl⟩ := rx; exact SeqAt.EqAt.str_str a t' b t
    | _ => exact absurd (show false = true from fx) Bool.false_ne_true
  | _ => exact absurd (show false = true from fy) Bool.false_ne_true
/-- the items' answers, read off the values (a value's own answer does not lean on its token) -/
def eqU (x : V) (u : Value) : Bool := match u with
  | .none => eqV .non x
  | .bool b => eqV (.bl b) x
  | .int i _ => eqV (.int i) x
  | .str z _ => eqV (.str z) x
  | _ => false
theorem eqU_of {x y : V} {u : Value} (r : RelV y u) (f : flatV y = true) : eqU x u = eqV y x := by
  cases y with
  | non => cases r; rfl
  | bl b => cases r; rfl
  | int i => obtain ⟨t, rfl⟩ := r; rfl
  | str z => obtain ⟨t, rfl⟩ := r; rfl
  | _ => exact absurd (show false = true from f) Bool.false_ne_true
theorem any_eqU {x : V} : ∀ {xs : List V} {us : List Value}, Vals xs us → xs.all flatV = true → us.any (eqU x) = xs.any fun y => eqV y x
  | _, _, .nil, _ => rfl
  | y :: xs, u :: us, .cons r t, f => by
    rw [List.all_cons, Bool.and_eq_true] at f
    rw [List.any_cons, List.any_cons, eqU_of r f.1, any_eqU t f.2]
theorem mem_eqAt {A : Around} {s : Shared} {x : V} {v : Value} (rx : RelV x v) (fx : flatV x = true) : ∀ {xs : List V} {us : List Value}, Vals xs us → xs.all flatV = true → ∀ u ∈ us, SeqAt.EqAt A s u v (eqU x u)
  | _, _, .nil, _ => fun u hu => by cases hu
  | y :: xs, u :: us, .cons r t, f => fun u' hu => by
    rw [List.all_cons, Bool.and_eq_true] at f
    rcases List.mem_cons.mp hu with rfl | hu
    · rw [eqU_of r f.1]; exact eqAt_V r rx f.1 fx
    · exact mem_eqAt rx fx t f.2 u' hu
def inV (x : V) (xs : List V) : Bool := xs.any fun y => eqV y x
/-- x in a list or tuple of flat items -/
def rIn (K : PySem.W.Frag) (neg : Bool) : R2 := fun x y H Q => ∃ p xs, y = .ref p ∧ (SqL K H p xs ∨ SqT K H p xs) ∧ flatV x = true ∧ xs.all flatV = true ∧ Q (.bl (if neg then !inV x xs else inV x xs)) H
theorem op_in_seq : OpR X (compareOp .In) (rIn X.K false) := by
  intro pins s σ H x y v u Q I rx ry h
  obtain ⟨p, xs, rfl, hq, fx, fs, q⟩ := h
  cases ry
  rcases hq with hq | hq
  · obtain ⟨its, r, pl, hz⟩ := I.list hq
    refine SeqAt.in_listAt (eqU x) pl.isList (fun w hw => mem_eqAt rx fx r fs w (by simpa using hw)) ⟨.bl _, H, I, rfl, ?_⟩
    rw [show its.toArray.any (eqU x) = its.any (eqU x) by simp, any_eqU r fs]
    exact q
  · obtain ⟨its, r, pl, hz⟩ := I.tuple hq
    refine SeqAt.in_tupleAt (eqU x) pl (fun w hw => mem_eqAt rx fx r fs w (by simpa using hw)) ⟨.bl _, H, I, rfl, ?_⟩
    rw [show its.toArray.any (eqU x) = its.any (eqU x) by simp, any_eqU r fs]
    exact q
/-! ### len, list(x), tuple(x) of any list or tuple that is read -/
theorem CallR.or {f : Value} {r r' : List V → Hp → VK → Prop} (h : CallR X f r) (h' : CallR X f r') : CallR X f (fun xs H Q => r xs H Q ∨ r' xs H Q) := by
  intro pins s σ H xs us Q I rs q
  rcases q with q | q
  · exact h pins s σ H xs us Q I rs q
  · exact h' pins s σ H xs us Q I rs q
theorem call_list_of : CallR X (.type "list") (fun xs H Q => ∃ p ys, xs = [.ref p] ∧ (SqL X.K H p ys ∨ SqT X.K H p ys) ∧ ∀ l, H l = none → Q (.ref l) (upd H l (.lst ys))) := by
  intro pins s σ H xs us Q I r h
  obtain ⟨p, ys, rfl, hq, q⟩ := h
  obtain ⟨u, rfl, rx⟩ := vals1 r
  cases rx
  have fin : ∀ (its : List Value), Vals ys its → ys.length ≤ sizeLine → ∀ (h' : Heap) (c' : Nat), (∀ b o', s.heap.get? b = some o' → h'.get? b = some o') →
      h'.get? s.heap.objs.size = some { cls := .type "list", dict := none, data := .seq its.toArray c', slots := #[] } → EP X pins σ Q (.ref s.heap.objs.size) { s with heap := h' } := fun its r' hz h' c' kp e =>
    ⟨.ref s.heap.objs.size, _, I.laid (t' := s.toks) kp (Nat.le_refl _) (show ObjOk X.prog X.w _ h' _ (.lst ys) from ⟨hz, its, c', r', e⟩), rfl, q _ (I.hok.fresh (Nat.le_refl _))⟩
  rcases hq with hq | hq
  · obtain ⟨its, r', pl, hz⟩ := I.list hq
    have hlen := r'.length
    obtain ⟨o, ho, hc, n, hd⟩ := pl.isList
    exact call_list_seq p (.inl rfl) ho hc hd (fun h' c' kp e => fin its r' hz h' c' kp e) (by simp only [List.size_toArray] <;> omega)
  · obtain ⟨its, r', pl, hz⟩ := I.tuple hq
    have hlen := r'.length
    obtain ⟨o, ho, hc, n, hd⟩ := pl
    exact call_list_seq p (.inr rfl) ho hc hd (fun h' c' kp e => fin its r' hz h' c' kp e) (by simp only [List.size_toArray] <;> omega)
/-! ### the call of a builtin's method: o.m(..) -/
/-- the value is of that builtin type -/
def tyV (K : PySem.W.Frag) (T : String) (x : V) (H : Hp) : Prop := match x with
  | .str _ => T = "str"
  | .int _ => T = "int"
  | .ref p => (T = "list" ∧ ∃ xs, SqL K H p xs) ∨ (T = "tuple" ∧ ∃ o, K.lookup p = some o ∧ o.cls = .type "tuple" ∧ o.dict = none) ∨
      (T = "dict" ∧ ((∃ kvs, H p = some (.dK kvs)) ∨ ∃ kvs, H p = some (.dT kvs))) ∨ (T = "set" ∧ ∃ S n, H p = some (.set S n))
  | _ => False
theorem tyV_is {pins : List (Addr × Obj)} {σ : St} {H : Hp} {s : Shared} {T : String} {x : V} {v : Value} (I : Inv X pins σ H s) (r : RelV x v) (ty : tyV X.K T x H) :
    s.TypeIs v T ∧ ∀ a, v = .ref a → ∃ ob, s.heap.get? a = some ob ∧ ob.dict = none := by
  cases x with
  | str z =>
    obtain ⟨t, rfl⟩ := r
    cases (show T = "str" from ty)
    exact ⟨typeIs_str s z t, fun _ e => nomatch e⟩
  | int i =>
    obtain ⟨t, rfl⟩ := r
    cases (show T = "int" from ty)
    exact ⟨typeIs_int s i t, fun _ e => nomatch e⟩
  | ref p =>
    cases r
    rcases ty with ⟨rfl, xs, hq⟩ | ⟨rfl, o, hk, hc, hd⟩ | ⟨rfl, hk⟩ | ⟨rfl, S, n, hk⟩
    · obtain ⟨its, _, pl, _⟩ := I.list hq
      refine ⟨pl.isList.typeIs, fun a e => ?_⟩
      cases e
      obtain ⟨o, n, e, c, hd, _⟩ := pl
      exact ⟨o, e, hd⟩
    · refine ⟨⟨o, I.kIn p o hk, hc⟩, fun a e => ?_⟩
      cases e
      exact ⟨o, I.kIn _ o hk, hd⟩
    · have z : ∃ o, s.heap.get? p = some o ∧ o.ExactDict := by
        rcases hk with ⟨kvs, hk⟩ | ⟨kvs, hk⟩
        · obtain ⟨_, _, _, _, o, _, _, e, ex, _⟩ := I.hok p _ hk
          exact ⟨o, e, ex⟩
        · obtain ⟨_, _, _, _, o, _, _, e, ex, _⟩ := I.hok p _ hk
          exact ⟨o, e, ex⟩
      obtain ⟨o, e, ex⟩ := z
      refine ⟨⟨o, e, ex.1⟩, fun a e2 => ?_⟩
      cases e2
      exact ⟨o, e, ex.2.1⟩
    · obtain ⟨o, _, _, _, e, ex, _⟩ := I.hok p _ hk
      refine ⟨⟨o, e, ex.1⟩, fun a e2 => ?_⟩
      cases e2
      exact ⟨o, e, ex.2.1⟩
  | _ => exact False.elim ty
def tBM (K : PySem.W.Frag) (T : String) (r : V → List V → Hp → VK → Prop) (to : TE) (t : TA) : TE := fun σ H Q => to σ H fun x H1 => tyV K T x H1 ∧ t σ H1 fun xs H2 => r x xs H2 Q
variable {o e : Expr} {es : List Expr} {to : TE} {t : TA} {name : Str} {apos cpos : Pos} {T id : String} {r : V → List V → Hp → VK → Prop}
theorem pe_bm (pa : PlainAttrs T) (slot : Slot T name id) (hty : typeOf (.builtin id) = pure (.type "method_descriptor")) (hm : MtR X id r) (ho : PE X o to) (ha : PA X (e :: es) t)
    (hbase : attributeBase o name X.env (eval o X.env) = eval o X.env := by rfl)
    (hfew : ((backTo cpos (starEach (e :: es) X.env)).all (fun x => !x.1) && (backToKw cpos (keywordEach [] X.env)).all (fun x => x.1.isSome)
      && decide ((e :: es).length + ([] : List Keyword).length + (if ([] : List Keyword).isEmpty then 0 else 1) < 30)) = true := by rfl)
    (hline : (apos.endLine == cpos.line) = true := by rfl) (hs : starEach (e :: es) X.env = (false, eval e X.env) :: starEach es X.env := by rfl) (hplain : (backTo cpos (starEach es X.env)).any (·.1) = false := by rfl) :
    PE X (.Call (.Attribute o name apos) (e :: es) [] cpos) (tBM X.K T r to t) := by
  intro pins s σ H Q I h
  refine wpAny_Call_method_late hbase hfew hline rfl (thn (ho pins s σ H _ I h) fun v s1 ⟨x, H1, I1, r1, ty, q1⟩ => ?_)
  obtain ⟨h1, h2⟩ := tyV_is I1 r1 ty
  refine ⟨T, id, pa, slot, hty, h1, h2, ?_⟩
  have hA := ha cpos pins s1 σ H1 _ I1 q1
  rw [hs] at hA ⊢
  refine Calls.callWith_builtin (by show (false || (backTo cpos (starEach es X.env)).any (·.1)) = false; rw [hplain] <;> rfl) (Calls.evalArgs_plain ?_)
  exact thn hA fun us s2 ⟨vs, H2, I2, r2, q2⟩ => hm pins s2 σ H2 x vs v us Q I2 r1 r2 q2
/- xs.append(e), list.index on a module's tuple .. are MtR facts of 06m -/
end
end L2
namespace L2
open PySem PySem.Spec PyProof.Rows
def MtM (X : Cx) (id : String) (r : V → List V → Hp → VK → Prop) : Prop :=
  ∀ (pins : List (Addr × Obj)) (s : Shared) (σ : St) (H : Hp) (x : V) (xs : List V) (v : Value) (us : List Value) (Q : VK), Inv X pins σ H s → RelV x v → Vals xs us → r x xs H Q →
    wpAny (model X.prog X.w) X.A (call (.builtin id) (v :: us)) (EP X pins σ Q) X.xe s
/-! ### lists of values -/
theorem Vals.one : ∀ {x : V} {us : List Value}, Vals [x] us → ∃ u, us = [u] ∧ RelV x u
  | _, _, .cons r .nil => ⟨_, rfl, r⟩
theorem Vals.two : ∀ {x y : V} {us : List Value}, Vals [x, y] us → ∃ u v, us = [u, v] ∧ RelV x u ∧ RelV y v
  | _, _, _, .cons r (.cons q .nil) => ⟨_, _, rfl, r, q⟩
theorem Vals.zero : ∀ {us : List Value}, Vals [] us → us = []
  | _, .nil => rfl
theorem Vals.reverse {xs : List V} {us : List Value} (h : Vals xs us) : Vals xs.reverse us.reverse := by
  induction h with
  | nil => exact .nil
  | cons r t ih => rw [List.reverse_cons, List.reverse_cons]; exact Vals.append ih (.cons r .nil)
theorem Vals.rep {xs : List V} {us : List Value} (h : Vals xs us) : ∀ k : Nat, Vals (List.replicate k xs).flatten (List.replicate k us).flatten
  | 0 => .nil
  | k + 1 => by
    rw [List.replicate_succ, List.replicate_succ, List.flatten_cons, List.flatten_cons]
    exact Vals.append h (Vals.rep h k)
theorem foldl_rep (its : List Value) : ∀ (k : Nat) (acc : List Value),
    List.foldl (fun x1 x2 => x1 ++ x2) acc.toArray (List.replicate k its.toArray) = (acc ++ (List.replicate k its).flatten).toArray
  | 0, acc => by simp
  | k + 1, acc => by
    have e : acc.toArray ++ its.toArray = (acc ++ its).toArray := by simp
    have e2 : (acc ++ its) ++ (List.replicate k its).flatten = acc ++ (List.replicate (k + 1) its).flatten := by
      rw [List.replicate_succ, List.flatten_cons, List.append_assoc]
    rw [← e2, ← foldl_rep its k (acc ++ its), ← e, List.replicate_succ, List.foldl_cons]
section
variable {X : Cx} {pins : List (Addr × Obj)} {σ : St} {H : Hp} {s : Shared} {l b : Addr} {xs ys zs : List V}
/-! ### the two steps: a tracked list is rewritten, a new list is laid -/
theorem Inv.lset {its its' : List Value} {n : Nat} {f : Array Value → Array Value} {t' : Nat} (I : Inv X pins σ H s) (hH : H l = some (.lst xs))
    (e : s.heap.get? l = some { cls := .type "list", data := .seq its.toArray n }) (hf : f its.toArray = its'.toArray) (hv : Vals ys its') (hz : ys.length ≤ sizeLine) :
    Inv X pins σ (upd H l (.lst ys)) { s with heap := s.heap.update l (Obj.mapSeq f), toks := t' } := by
  have q := PySem.IsL.update e f
  rw [hf] at q
  refine I.write (x := l) (e := l) (by rw [hH]; exact trivial) (.inl rfl) (fun b' u hb hu => (Heap.get?_update_other s.heap (Obj.mapSeq f) (Ne.symm hb)).trans hu) ⟨_, q⟩ ?_
  exact ⟨hz, its', _, hv, q⟩
theorem Inv.lnew {its : List Value} {t' : Nat} (I : Inv X pins σ H s) (hv : Vals ys its) (hz : ys.length ≤ sizeLine) :
    Inv X pins σ (upd H s.heap.objs.size (.lst ys)) { s with heap := s.heap.push { cls := .type "list", data := .seq its.toArray }, toks := t' } :=
  I.laid (fun _ _ q => Heap.get?_push_of_some _ q) (Nat.le_refl _) ⟨hz, its, 0, hv, Heap.get?_push_size _ rfl⟩
theorem Inv.fresh (I : Inv X pins σ H s) : H s.heap.objs.size = none := I.hok.fresh (Nat.le_refl _)
theorem Inv.lstM (I : Inv X pins σ H s) (hH : H l = some (.lst xs)) : xs.length ≤ sizeLine ∧ ∃ (its : List Value) (n : Nat), Vals xs its ∧ xs.length = its.length ∧ s.heap.get? l = some { cls := .type "list", data := .seq its.toArray n } := by
  obtain ⟨z, its, n, r, e⟩ := I.hok l _ hH
  exact ⟨z, its, n, r, r.length, e⟩
theorem notLongL {n : Nat} (h : n ≤ sizeLine) : Builtin.List.listTooLong n = false := by
  unfold Builtin.List.listTooLong
  exact decide_eq_false (by omega)
end
section
variable {X : Cx}
/-! ### methods -/
def rAppend : V → List V → Hp → VK → Prop := fun x vs H Q => ∃ l xs y, x = .ref l ∧ vs = [y] ∧ H l = some (.lst xs) ∧ xs.length < sizeLine ∧ Q .non (upd H l (.lst (xs ++ [y])))
theorem mt_append : MtM X "list.append" rAppend := by
  intro pins s σ H x vs v us Q I rx rv h
  obtain ⟨l, xs, y, rfl, rfl, hH, hz, q⟩ := h
  cases rx
  obtain ⟨u, rfl, ru⟩ := rv.one
  obtain ⟨z, its, n, r, hl, e⟩ := I.lstM hH
  refine call_meets F.slot_list_append ⟨_, e, rfl⟩ F.entry_list_append (F.args_list_append_2 _ _) (PySem.list_append l its.toArray n u (by rw [List.size_toArray]; omega)) ⟨e, ?_⟩
  refine ⟨.non, _, I.lset (its' := its ++ [u]) hH e (by simp) (r.append (.cons ru .nil)) ?_, rfl, q⟩
  rw [List.length_append, List.length_singleton]
  omega
/-! ### list + list, list += list, list * int -/
def rCat : R2 := fun x y H Q => ∃ l b xs zs, x = .ref l ∧ y = .ref b ∧ H l = some (.lst xs) ∧ H b = some (.lst zs) ∧ xs.length + zs.length ≤ sizeLine ∧ ∀ p, H p = none → Q (.ref p) (upd H p (.lst (xs ++ zs)))
theorem op_cat : OpR X (binaryOp .Add) rCat := by
  intro pins s σ H x y v u Q I rx ry h
  obtain ⟨l, b, xs, zs, rfl, rfl, hH, hB, hz, q⟩ := h
  cases rx
  cases ry
  obtain ⟨z, its, n, r, hl, e⟩ := I.lstM hH
  obtain ⟨z2, its2, n2, r2, hl2, e2⟩ := I.lstM hB
  refine PySem.P.add_list e e2 ?_ (by rw [List.size_toArray, List.size_toArray]; omega)
  have ea : its.toArray ++ its2.toArray = (its ++ its2).toArray := by simp
  rw [ea]
  exact ⟨.ref _, _, I.lnew (t' := s.toks) (r.append r2) (by rw [List.length_append]; omega), rfl, q _ I.fresh⟩
/-- a list times an int (a negative one is nothing) -/
def rRep : R2 := fun x y H Q => ∃ l k xs, x = .ref l ∧ y = .int k ∧ H l = some (.lst xs) ∧ -(2 ^ 63) ≤ k ∧ k < 2 ^ 63 ∧ xs.length * k.toNat ≤ sizeLine ∧
  ∀ p, H p = none → Q (.ref p) (upd H p (.lst (List.replicate k.toNat xs).flatten))
theorem len_rep {α : Type} (xs : List α) (k : Nat) : (List.replicate k xs).flatten.length = k * xs.length := by
  induction k with
  | zero => simp
  | succ k ih => rw [List.replicate_succ, List.flatten_cons, List.length_append, ih, Nat.succ_mul, Nat.add_comm]
theorem op_rep : OpR X (binaryOp .Mult) rRep := by
  intro pins s σ H x y v u Q I rx ry h
  obtain ⟨l, k, xs, rfl, rfl, hH, h1, h2, hz, q⟩ := h
  cases rx
  obtain ⟨t, rfl⟩ := ry
  obtain ⟨z, its, n, r, hl, e⟩ := I.lstM hH
  have hlen : its.toArray.size * k.toNat ≤ sizeLine := by rw [List.size_toArray, ← hl]; exact hz
  have hcap : ¬ its.toArray.size * k.toNat > (2 ^ 63 - 1) / 8 := by
    have : (sizeLine : Nat) ≤ (2 ^ 63 - 1) / 8 := by decide
    omega
  have hfit : ¬ (!Builtin.List.listFitsIndex k) = true := by
    rw [fitsIndex_both h1 h2]
    exact Bool.false_ne_true
  have hlong : ¬ Builtin.List.listTooLong (its.toArray.size * k.toNat) = true := by
    rw [notLongL hlen]
    exact Bool.false_ne_true
  have hnew : List.foldl (fun x1 x2 => x1 ++ x2) #[] (List.replicate (if its.toArray.isEmpty = true then 0 else k.toNat) its.toArray) = (List.replicate k.toNat its).flatten.toArray := by
    have f0 : ∀ m : Nat, List.foldl (fun x1 x2 => x1 ++ x2) #[] (List.replicate m its.toArray) = (List.replicate m its).flatten.toArray := fun m => by
      have := foldl_rep its m []
      rw [List.nil_append] at this
      exact this
    rw [f0]
    cases its with
    | nil => simp
    | cons a r' => rw [if_neg (by simp)]
  refine wpAny_binaryOp_repeat_ref (T := "list") (U := "int") (by decide) ⟨_, e, rfl⟩ (fun s' => typeIs_int s' k t) noFill_list_mul F.fills_int_mul F.slot_int_rmul repeat_list F.slot_int_index.lookup
    (call_meets F.slot_int_rmul (typeIs_int s k t) F.entry_int_rmul (F.args_int_rmul_2 _ _) (int___rmul___int_list k t l its.toArray n)
      ⟨e, rfl, ⟨_, e, rfl⟩, call_meets F.slot_list_mul ⟨_, e, rfl⟩ F.entry_list_mul (F.args_list_mul_2 _ _) (AutoListH.list___mul___list_int_3 l its.toArray n k t hfit hcap hlong) ⟨e, ?_⟩⟩)
  rw [hnew]
  exact ⟨.ref _, _, I.lnew (t' := s.toks) (r.rep k.toNat) (by rw [len_rep, Nat.mul_comm]; exact hz), rfl, q _ I.fresh⟩
/-! ### del xs[i] -/
end
/-! ### xs[a:b] = ys -/
section
variable {prog : Program} {w : World} {A : Around} {E : Value → Shared → Prop} {s : Shared}
end
section
variable {X : Cx}
end
end L2
namespace L2
open PySem PySem.Spec PyProof.Rows
theorem Vals.ints : ∀ {ns : List Int} {us : List Value}, Vals (ns.map V.int) us → IntsAre us ns
  | [], us, h => by
    rw [List.map_nil] at h
    cases h
    exact IntsAre.nil
  | n :: ns, us, h => by
    rw [List.map_cons] at h
    cases h with
    | cons r t =>
      obtain ⟨k, rfl⟩ := r
      exact IntsAre.cons n k (Vals.ints t)
theorem Vals.strs : ∀ {xs : List Str} {us : List Value}, Vals (xs.map V.str) us → StrsAre us xs
  | [], us, h => by
    rw [List.map_nil] at h
    cases h
    exact StrsAre.nil
  | x :: xs, us, h => by
    rw [List.map_cons] at h
    cases h with
    | cons r t =>
      obtain ⟨k, rfl⟩ := r
      exact StrsAre.cons x k (Vals.strs t)
theorem Vals.bls : ∀ {bs : List Bool} {us : List Value}, Vals (bs.map V.bl) us → us = bs.map Value.bool
  | [], us, h => by
    rw [List.map_nil] at h
    cases h
    rfl
  | b :: bs, us, h => by
    rw [List.map_cons] at h
    cases h with
    | cons r t =>
      cases r
      rw [Vals.bls t, List.map_cons]
theorem Vals.ref1 {a : Addr} {us : List Value} (r : Vals [V.ref a] us) : us = [Value.ref a] := by
  cases r with
  | cons r t =>
    cases t
    cases r
    rfl
/-! ### the library's walks over a list of ints, kept objects alone -/
section
variable {prog : Program} {w : World} {A : Around} {E : Value → Shared → Prop} {s : Shared} {l : Addr} {its : List Value} {ns : List Int} {Q : Value → Shared → Prop}
theorem max_raw (hh : A.handled = none) (hl : s.heap.IsList l its.toArray) (hi : IntsAre its ns) (hne : 0 < ns.length)
    (h : ∀ h' tk M t', (∀ b o, s.heap.get? b = some o → h'.get? b = some o) → M ∈ ns → (∀ a, a ∈ ns → a ≤ M) → Q (.int M t') { s with heap := h', toks := tk }) : wpAny (model prog w) A (call (.builtin "max") [.ref l]) Q E s := by
  obtain ⟨xs, e⟩ := hi.allInts.items
  have hn : numsOf (intItems xs).toList = ns := by rw [← e]; exact hi.numsOf
  rw [nums_intItems] at hn
  subst hn
  rw [e] at hl
  have hsz : 0 < xs.size := by simpa using hne
  refine PySem.max_intList hh hl hsz fun v h' tk hv hk => ?_
  obtain ⟨t, rfl⟩ := intItems_at hv
  obtain ⟨h1, h2⟩ := argBest_gt (numAt xs) (xs.size - 1)
  refine h h' tk _ t hk ?_ fun a ha => ?_
  · rw [numAt_eq]; exact PySem.getD_mem (by rw [List.length_map, Array.length_toList]; omega)
  · obtain ⟨j, hj, rfl⟩ := mem_getD ha
    rw [List.length_map, Array.length_toList] at hj
    rw [← numAt_eq]; exact h2 j (by omega)
end
/-! ### the calls, by values (CallR of 03t; MtR of 06l) -/
section
variable {X : Cx}
/-- max(xs), min(xs) of a list of ints -/
def rMax (K : PySem.W.Frag) : List V → Hp → VK → Prop := fun vs H Q => ∃ (a : Addr) (ns : List Int), vs = [V.ref a] ∧ SqL K H a (ns.map V.int) ∧ 0 < ns.length ∧ ∀ m, m ∈ ns → (∀ y, y ∈ ns → y ≤ m) → Q (.int m) H
theorem cr_max (hc : X.calm = true) : CallR X (.builtin "max") (rMax X.K) := by
  intro pins s σ H vs us Q I r h
  obtain ⟨a, ns, rfl, hs, hne, q⟩ := h
  obtain ⟨its, rv, hl, _⟩ := I.list hs
  rw [Vals.ref1 r]
  exact max_raw (I.ok.hd hc) hl.isList rv.ints hne fun h' tk m t' hk h1 h2 => ⟨.int _, H, I.kept hk, ⟨_, rfl⟩, q m h1 h2⟩
/-! sorted, sort (fewer than 64 items: the library's own bound) -/
end
/-! ### list.index, flat items -/
section
variable {X : Cx}
end
/-! ### type(x) of an own instance; is, is not of a module's class -/
section
variable {X : Cx}
end
/-! ### any(xs), all(xs) of a list of bools -/
theorem iter_any {prog : Program} {w : World} {A : Around} {E : Value → Shared → Prop} {s : Shared} {l : Addr} {items : Array Value} {Q : Value → Shared → Prop} (hl : s.heap.IsList l items)
    (h : ∀ s₂ : Shared, s₂ = { s with heap := s.heap.push { cls := .type "list_iterator", data := .fields #[.ref l, .int 0 0] } } →
      (s₂.heap.IsListIter s.heap.objs.size l 0 ∧ s₂.heap.IsList l items) → l ≠ s.heap.objs.size → Q (.ref s.heap.objs.size) s₂) : wpAny (model prog w) A (pyIter (.ref l)) Q E s := by
  have hlt : l < s.heap.objs.size := by obtain ⟨_, e, _⟩ := hl; exact Heap.lt_size e
  exact wpAny_pyIter_list hl (h _ rfl ⟨⟨_, Heap.get?_push_size _ rfl, rfl, rfl⟩, hl.push _⟩ (Nat.ne_of_lt hlt))
theorem truth_bools {prog : Program} {w : World} {A : Around} {bs : List Bool} {its : List Value} (e : its = bs.map Value.bool) :
    TruthOf prog w A (fun i v => its.toArray[i]? = some v) (fun i => bs.getD i false) := fun i v s Q E hv hq => by
  have hv' : its[i]? = some v := by simpa using hv
  rw [e, List.getElem?_map] at hv'
  obtain ⟨b, hb, rfl⟩ := Option.map_eq_some_iff.mp hv'
  have hg : bs.getD i false = b := by rw [List.getD_eq_getElem?_getD, hb] <;> rfl
  have hq' : Q (bs.getD i false) s := hq
  rw [hg] at hq'
  exact wpAny_truthy_bool hq'
theorem all_range : ∀ bs : List Bool, (List.range bs.length).all (fun i => bs.getD i false) = bs.all id
  | [] => rfl
  | b :: bs => by
    rw [List.length_cons, List.range_succ_eq_map, List.all_cons, List.all_map, List.all_cons, ← all_range bs]
    all_goals rfl
section
variable {X : Cx}
def rAll (K : PySem.W.Frag) : List V → Hp → VK → Prop := fun vs H Q => ∃ (a : Addr) (bs : List Bool), vs = [V.ref a] ∧ SqL K H a (bs.map V.bl) ∧ Q (.bl (bs.all id)) H
theorem cr_all (hc : X.calm = true) : CallR X (.builtin "all") (rAll X.K) := by
  intro pins s σ H vs us Q I r h
  obtain ⟨a, bs, rfl, hs, q⟩ := h
  obtain ⟨its, rv, hl, _⟩ := I.list hs
  rw [Vals.ref1 r]
  have hb := rv.bls
  refine call_all_walk (iter_any hl.isList fun s₂ e2 st hne => ?_)
  subst e2
  refine ⟨_, _, _, _, _, _, _, rfl, Walks.list (A := X.A.in1) (I.ok.hd hc) _ a hne its.toArray, st, truth_bools hb, fun h' tk hk => ?_⟩
  refine ⟨.bl _, H, I.kept fun b o eo => hk b o (fun hmem => ?_) (Heap.get?_push_of_some _ eo), ?_, q⟩
  · rcases List.mem_cons.mp hmem with e1 | hmem
    · exact absurd (e1 ▸ Heap.lt_size eo) (Nat.lt_irrefl _)
    · cases hmem
  · show Value.bool _ = Value.bool _
    rw [← all_range, hb, List.size_toArray, List.length_map]
end
/-! ### == and != of data at any depth: none, bools, ints, texts, lists, tuples -/
mutual
inductive Dp (K : PySem.W.Frag) (H : Hp) : V → PyData → Prop
  | non : Dp K H .non .none
  | bl (b : Bool) : Dp K H (.bl b) (.bool b)
  | int (i : Int) : Dp K H (.int i) (.int i)
  | str (x : Str) : Dp K H (.str x) (.str x)
  | lst {a : Addr} {xs : List V} {ds : List PyData} : SqL K H a xs → DpAll K H xs ds → Dp K H (.ref a) (.list ds)
  | tup {a : Addr} {xs : List V} {ds : List PyData} : SqT K H a xs → DpAll K H xs ds → Dp K H (.ref a) (.tuple ds)
inductive DpAll (K : PySem.W.Frag) (H : Hp) : List V → List PyData → Prop
  | nil : DpAll K H [] []
  | cons {v : V} {vs : List V} {d : PyData} {ds : List PyData} : Dp K H v d → DpAll K H vs ds → DpAll K H (v :: vs) (d :: ds)
end
section
variable {X : Cx} {pins : List (Addr × Obj)} {σ : St} {H : Hp} {s : Shared}
mutual
theorem Dp.reads (I : Inv X pins σ H s) : ∀ (d : PyData) (v : V) (u : Value), Dp X.K H v d → RelV v u → ∃ as, Reads s.heap u d as
  | .none, _, _, h, r => by
    cases h
    cases r
    exact ⟨_, Reads.none⟩
  | .bool b, _, _, h, r => by
    cases h
    cases r
    exact ⟨_, Reads.bool b⟩
  | .int i, _, _, h, r => by
    cases h
    obtain ⟨t, rfl⟩ := r
    exact ⟨_, Reads.int i t⟩
  | .str x, _, _, h, r => by
    cases h
    obtain ⟨t, rfl⟩ := r
    exact ⟨_, Reads.str x t⟩
  | .list ds, _, _, h, r => by
    cases h with
    | lst hs ha =>
      cases r
      obtain ⟨its, rv, ⟨o, n, ho, hc, _, hd⟩, _⟩ := I.list hs
      obtain ⟨as, hr⟩ := Dp.readsAll I ds _ its ha rv
      exact ⟨_, Reads.list ho hc hd hr⟩
  | .tuple ds, _, _, h, r => by
    cases h with
    | tup hs ha =>
      cases r
      obtain ⟨its, rv, ⟨o, ho, hc, n, hd⟩, _⟩ := I.tuple hs
      obtain ⟨as, hr⟩ := Dp.readsAll I ds _ its ha rv
      exact ⟨_, Reads.tuple ho hc hd hr⟩
  | .dict _, _, _, h, _ => by cases h
theorem Dp.readsAll (I : Inv X pins σ H s) : ∀ (ds : List PyData) (vs : List V) (us : List Value), DpAll X.K H vs ds → Vals vs us → ∃ as, ReadsAll s.heap us ds as
  | [], _, _, h, r => by
    cases h
    cases r
    exact ⟨_, ReadsAll.nil⟩
  | d :: ds, _, _, h, r => by
    cases h with
    | cons h1 h2 =>
      cases r with
      | cons r1 r2 =>
        obtain ⟨as, q1⟩ := Dp.reads I d _ _ h1 r1
        obtain ⟨bs, q2⟩ := Dp.readsAll I ds _ _ h2 r2
        exact ⟨_, ReadsAll.cons q1 q2⟩
end
end
section
variable {X : Cx}
def rEqD (K : PySem.W.Frag) : R2 := fun x y H Q => ∃ d e, Dp K H x d ∧ Dp K H y e ∧ SeqAt.shaped d = true ∧ SeqAt.shaped e = true ∧ Q (.bl (PyData.eqv d e)) H
def rNeD (K : PySem.W.Frag) : R2 := fun x y H Q => ∃ d e, Dp K H x d ∧ Dp K H y e ∧ SeqAt.shaped d = true ∧ SeqAt.shaped e = true ∧ Q (.bl (!PyData.eqv d e)) H
theorem op_eqD (hu : X.A.units + 64 < cLine) : OpR X (compareOp .Eq) (rEqD X.K) := by
  intro pins s σ H x y v u Q I rx ry h
  obtain ⟨d, e, hd, he, sd, se, q⟩ := h
  obtain ⟨as, r1⟩ := Dp.reads I d x v hd rx
  obtain ⟨bs, r2⟩ := Dp.reads I e y u he ry
  exact SeqAt.compareEq_shaped r1 r2 sd se hu ⟨.bl _, H, I, rfl, q⟩
theorem op_neD (hu : X.A.units + 64 < cLine) : OpR X (compareOp .NotEq) (rNeD X.K) := by
  intro pins s σ H x y v u Q I rx ry h
  obtain ⟨d, e, hd, he, sd, se, q⟩ := h
  obtain ⟨as, r1⟩ := Dp.reads I d x v hd rx
  obtain ⟨bs, r2⟩ := Dp.reads I e y u he ry
  exact SeqAt.compareNe_shaped r1 r2 sd se hu ⟨.bl _, H, I, rfl, q⟩
end
end L2
namespace L2
open PySem PySem.Spec PyProof.Rows
abbrev CellAt (h : Heap) (c : Addr) (v : Option Value) : Prop := h.IsCell c v
def relS (scope sc : Scope) : Scope :=
  { scope with names := scope.names.map fun (n, k) => if (k == .free && sc.kind == .function && sc.names.lookup n == some .cell) then (n, .cell) else (n, k) }
def cloFrom (cells : List (Str × Addr)) : List (Str × NameKind) → List (Str × Addr) → List (Str × Addr)
  | [], acc => acc
  | (n, k) :: r, acc => if k == .free then cloFrom cells r ((n, (cells.lookup n).getD 0) :: acc) else cloFrom cells r acc
theorem closure_loop (env : Env) (f : Str × NameKind → List (Str × Addr) → Sem (ForInStep (List (Str × Addr))))
    (hf : ∀ n k c, f (n, k) c = if k == .free then (do let a ← cellOf env n; pure (.yield ((n, a) :: c))) else pure (.yield c)) :
    ∀ (names : List (Str × NameKind)) (acc : List (Str × Addr)), (∀ y ∈ names, y.2 = .free → ∃ c, env.cells.lookup y.1 = some c) → forIn names acc f = pure (cloFrom env.cells names acc)
  | [], acc, _ => by rw [List.forIn_nil]; rfl
  | (n, k) :: r, acc, h => by
    rw [List.forIn_cons, hf]
    have ih := fun acc => closure_loop env f hf r acc fun y hy => h y (List.mem_cons_of_mem _ hy)
    unfold cloFrom
    by_cases hk : (k == NameKind.free) = true
    · rw [if_pos hk, if_pos hk]
      obtain ⟨c, hc⟩ := h (n, k) List.mem_cons_self (by simpa using hk)
      have e : cellOf env n = pure c := by unfold cellOf; rw [hc]
      rw [e]
      have e2 : (env.cells.lookup n).getD 0 = c := by rw [hc]; rfl
      rw [e2]
      exact ih _
    · rw [if_neg hk, if_neg hk]
      exact ih _
theorem closure_ok {scope : Scope} {env : Env} (h : ∀ y ∈ scope.names, y.2 = .free → ∃ c, env.cells.lookup y.1 = some c) : closureFor scope env = pure (cloFrom env.cells scope.names []) := by
  simp only [closureFor]
  rw [closure_loop env _ (fun n k c => rfl) scope.names [] h]
  rfl
theorem mem_lookup {α : Type} : ∀ {l : List (Str × α)} {n : Str} {c : α}, (n, c) ∈ l → ∃ c', l.lookup n = some c'
  | (k, v) :: r, n, c, h => by
    rw [List.lookup_cons]
    cases hb : n == k with
    | true => exact ⟨_, rfl⟩
    | false =>
      rcases List.mem_cons.mp h with e | h
      · cases e; simp at hb
      · exact mem_lookup h
theorem cloFrom_mem {cells : List (Str × Addr)} : ∀ {names : List (Str × NameKind)} {acc : List (Str × Addr)} {n : Str} {c : Addr}, (n, c) ∈ cloFrom cells names acc → (n, c) ∈ acc ∨ ((n, .free) ∈ names ∧ c = (cells.lookup n).getD 0)
  | [], _, _, _, h => .inl h
  | (m, k) :: r, acc, n, c, h => by
    unfold cloFrom at h
    split at h
    · rename_i hk
      have hk : k = .free := by simpa using hk
      rcases cloFrom_mem h with h | ⟨h1, h2⟩
      · rcases List.mem_cons.mp h with e | h
        · cases e; exact .inr ⟨hk ▸ List.mem_cons_self, rfl⟩
        · exact .inl h
      · exact .inr ⟨List.mem_cons_of_mem _ h1, h2⟩
    · rcases cloFrom_mem h with h | ⟨h1, h2⟩
      · exact .inl h
      · exact .inr ⟨List.mem_cons_of_mem _ h1, h2⟩
theorem cloFrom_acc {cells : List (Str × Addr)} : ∀ {names : List (Str × NameKind)} {acc : List (Str × Addr)} {p : Str × Addr}, p ∈ acc → p ∈ cloFrom cells names acc
  | [], _, _, h => h
  | (m, k) :: r, acc, p, h => by
    unfold cloFrom
    split
    · exact cloFrom_acc (List.mem_cons_of_mem _ h)
    · exact cloFrom_acc h
theorem cloFrom_has {cells : List (Str × Addr)} : ∀ {names : List (Str × NameKind)} {acc : List (Str × Addr)} {n : Str}, (n, .free) ∈ names → (n, (cells.lookup n).getD 0) ∈ cloFrom cells names acc
  | (m, k) :: r, acc, n, h => by
    unfold cloFrom
    rcases List.mem_cons.mp h with e | h
    · cases e
      exact cloFrom_acc List.mem_cons_self
    · split
      · exact cloFrom_has h
      · exact cloFrom_has h
theorem cells_mem : ∀ {names : List (Str × NameKind)} {h : Heap} {acc : List (Str × Addr)} {x : Str} {c : Addr}, (x, c) ∈ cellsFrom h.objs.size names acc →
    (x, c) ∈ acc ∨ ((x, .cell) ∈ names ∧ h.objs.size ≤ c ∧ CellAt (pushCells h names) c none)
  | [], _, _, _, _, h => .inl h
  | (n, k) :: r, h, acc, x, c, hm => by
    unfold cellsFrom at hm
    unfold pushCells
    split at hm
    · rename_i hk
      rw [if_pos hk]
      have hk : k = .cell := by simpa using hk
      rw [← Heap.size_push h { cls := .type "cell", data := .cell none }] at hm
      rcases cells_mem hm with hm | ⟨h1, h2, h3⟩
      · rcases List.mem_cons.mp hm with e | hm
        · cases e
          exact .inr ⟨hk ▸ List.mem_cons_self, Nat.le_refl _, _, pushCells_keeps r _ _ _ (Heap.get?_push_size _ rfl), rfl⟩
        · exact .inl hm
      · rw [Heap.size_push] at h2
        exact .inr ⟨List.mem_cons_of_mem _ h1, Nat.le_of_succ_le h2, h3⟩
    · rename_i hk
      rw [if_neg hk]
      rcases cells_mem hm with hm | ⟨h1, h2, h3⟩
      · exact .inl hm
      · exact .inr ⟨List.mem_cons_of_mem _ h1, h2, h3⟩
theorem cells_acc : ∀ {names : List (Str × NameKind)} {n : Nat} {acc : List (Str × Addr)} {p : Str × Addr}, p ∈ acc → p ∈ cellsFrom n names acc
  | [], _, _, _, h => h
  | (m, k) :: r, n, acc, p, h => by
    unfold cellsFrom
    split
    · exact cells_acc (List.mem_cons_of_mem _ h)
    · exact cells_acc h
theorem cells_has : ∀ {names : List (Str × NameKind)} {n : Nat} {acc : List (Str × Addr)} {x : Str}, (x, .cell) ∈ names → ∃ c, (x, c) ∈ cellsFrom n names acc
  | (m, k) :: r, n, acc, x, h => by
    unfold cellsFrom
    rcases List.mem_cons.mp h with e | h
    · cases e
      exact ⟨n, cells_acc List.mem_cons_self⟩
    · split
      · exact cells_has h
      · exact cells_has h
theorem cells_inj : ∀ {names : List (Str × NameKind)} {h : Heap} {acc : List (Str × Addr)} {x y : Str} {c : Addr}, (∀ p ∈ acc, p.2 < h.objs.size) → (∀ x y c, (x, c) ∈ acc → (y, c) ∈ acc → x = y) →
    (x, c) ∈ cellsFrom h.objs.size names acc → (y, c) ∈ cellsFrom h.objs.size names acc → x = y
  | [], _, _, _, _, _, _, hi, h1, h2 => hi _ _ _ h1 h2
  | (n, k) :: r, h, acc, x, y, c, hl, hi, h1, h2 => by
    unfold cellsFrom at h1 h2
    split at h1
    · rename_i hk
      rw [if_pos hk] at h2
      rw [← Heap.size_push h { cls := .type "cell", data := .cell none }] at h1 h2
      refine cells_inj (h := h.push _) (fun p hp => ?_) (fun x y c a b => ?_) h1 h2
      · rw [Heap.size_push]
        rcases List.mem_cons.mp hp with rfl | hp
        · exact Nat.lt_succ_self _
        · exact Nat.lt_succ_of_lt (hl p hp)
      · rcases List.mem_cons.mp a with e | a <;> rcases List.mem_cons.mp b with e' | b
        · cases e; cases e'; rfl
        · cases e; exact absurd (hl _ b) (Nat.lt_irrefl _)
        · cases e'; exact absurd (hl _ a) (Nat.lt_irrefl _)
        · exact hi _ _ _ a b
    · rename_i hk
      rw [if_neg hk] at h2
      exact cells_inj hl hi h1 h2
theorem newEnv_comp {M : Model} {A : Around} {E : Value → Shared → Prop} {s : Shared} {scope : Scope} {globals : Addr} {closure : List (Str × Addr)} {qual : Str} {func : Option Addr} {code : Value} {around : Env} {builtins : Addr} {Q : Env → Shared → Prop}
    (h : Q (newEnv scope s.heap.objs.size globals (cellsFrom (s.heap.objs.size + 1) scope.names closure) qual func code (some around) builtins)
      { s with heap := pushCells (s.heap.push { cls := .type "dict", data := .dict #[] }) scope.names }) :
    wpAny M A (newFunctionEnv scope globals closure [] qual func code (some around) builtins) Q E s := by
  simp only [newFunctionEnv, Option.isSome_some, if_true]
  refine wpAny_bind (wpAny_alloc ?_)
  refine wpAny_bind (wpAny_layCells _ (fun n k c => rfl) scope.names closure _ _ ?_)
  rw [show ({ s with heap := s.heap.push { cls := .type "dict", data := .dict #[] } } : Shared).heap.objs.size = s.heap.objs.size + 1 from Heap.size_push ..]
  rw [List.forIn_nil]
  exact wpAny_bind (wpAny_pure (wpAny_pure h))
/-- every name of the written scope, in the scope that runs -/
theorem lookup_relS {sc : Scope} : ∀ {names : List (Str × NameKind)} {x : Str} {k : NameKind},
    (names.map fun (n, k) => if (k == NameKind.free && sc.kind == .function && sc.names.lookup n == some .cell) then (n, NameKind.cell) else (n, k)).lookup x = some k →
    ∃ k', names.lookup x = some k' ∧ (k = k' ∨ (k' = .free ∧ k = .cell))
  | [], _, _, h => by simp at h
  | (n, k₀) :: r, x, k, h => by
    have ih := @lookup_relS sc r x k
    have h' : List.lookup x ((if (k₀ == NameKind.free && sc.kind == .function && sc.names.lookup n == some .cell) = true then (n, NameKind.cell) else (n, k₀)) :: (r.map _)) = some k := h
    cases hx : x == n with
    | true =>
      simp only [List.lookup_cons, hx]
      by_cases hc : (k₀ == NameKind.free && sc.kind == .function && sc.names.lookup n == some .cell) = true
      · rw [if_pos hc] at h'
        simp only [List.lookup_cons, hx] at h'
        cases h'
        simp only [Bool.and_eq_true, beq_iff_eq] at hc
        exact ⟨k₀, rfl, .inr ⟨hc.1.1, rfl⟩⟩
      · rw [if_neg hc] at h'
        simp only [List.lookup_cons, hx] at h'
        cases h'
        exact ⟨_, rfl, .inl rfl⟩
    | false =>
      simp only [List.lookup_cons, hx]
      by_cases hc : (k₀ == NameKind.free && sc.kind == .function && sc.names.lookup n == some .cell) = true
      · rw [if_pos hc] at h'
        simp only [List.lookup_cons, hx] at h'
        exact ih h'
      · rw [if_neg hc] at h'
        simp only [List.lookup_cons, hx] at h'
        exact ih h'
/-- the names of a comprehension's block: its own (with their places in N), or captured -/
structure BlkOk (N : List Str) (sc scope : Scope) (own : List (Str × Nat)) : Prop where
  kind : scope.kind = .function
  uniq : ∀ y ∈ scope.names, scope.names.lookup y.1 = some y.2
  ix : ∀ p ∈ own, N[p.2]? = some p.1
  free : ∀ y ∈ scope.names, y.2 = .free → sc.names.lookup y.1 = some .cell ∨ sc.names.lookup y.1 = some .free
  own : ∀ y ∈ scope.names, y.2 = .local ∨ y.2 = .cell → y.1 ∈ own.map (·.1) ∨ y.1 ∉ N
/-- the slots of the block's own names forgotten -/
def wipe (σ : St) : List Nat → St
  | [] => σ
  | v :: vs => (wipe σ vs).set v none
theorem wipe_length (σ : St) : ∀ vs : List Nat, (wipe σ vs).length = σ.length
  | [] => rfl
  | v :: vs => by unfold wipe; rw [List.length_set, wipe_length σ vs]
theorem wipe_some {σ : St} {i : Nat} {x : V} : ∀ {vs : List Nat}, (wipe σ vs)[i]? = some (some x) → σ[i]? = some (some x) ∧ i ∉ vs
  | [], h => ⟨h, by simp⟩
  | v :: vs, h => by
    unfold wipe at h
    by_cases hi : v = i
    · subst hi
      by_cases hv : v < (wipe σ vs).length
      · rw [List.getElem?_set_self hv] at h; cases h
      · rw [List.getElem?_eq_none (by simpa using hv)] at h; cases h
    · rw [List.getElem?_set_ne hi] at h
      obtain ⟨h1, h2⟩ := wipe_some h
      exact ⟨h1, by simp only [List.mem_cons, not_or]; exact ⟨fun e => hi e.symm, h2⟩⟩
/-- the context of a block that starts at s, its iterator's objects at fp -/
abbrev Cx.blk (X : Cx) (s : Shared) (H : Hp) (scope : Scope) (cenv : Env) (fp : List Addr) : Cx := { X with s_0 := s, H_0 := H, env := cenv, outer := X.stack, ex := fp, fn := fun x => scope.names.lookup x == some .cell, pn := [], xe := fun _ _ => False }
section
variable {X : Cx} {pins : List (Addr × Obj)} {σ : St} {H : Hp} {s : Shared}
theorem block_start {scope : Scope} {own : List (Str × Nat)} {fp : List Addr} (I : Inv X pins σ H s) (ok : BlkOk X.N X.env.scope scope own) (hN : X.N.Nodup) (hfp : ∀ b ∈ fp, FpOk X pins H b ∧ b < s.heap.objs.size) :
    Inv (X.blk s H scope (compEnvC scope (cellsFrom (s.heap.objs.size + 1) scope.names (cloFrom X.env.cells scope.names [])) s.heap.objs.size X.env) fp) [] (wipe σ (own.map (·.2))) H { s with heap := pushCells (s.heap.push { cls := .type "dict", data := .dict #[] }) scope.names } := by
  have hfree : ∀ y ∈ scope.names, y.2 = .free → ∃ c, X.env.cells.lookup y.1 = some c := fun y hy e => by
    rcases ok.free y hy e with k | k
    · exact I.ok.has _ (.inl k)
    · exact I.ok.has _ (.inr k)
  generalize hcenv : compEnvC scope (cellsFrom (s.heap.objs.size + 1) scope.names (cloFrom X.env.cells scope.names [])) s.heap.objs.size X.env = cenv
  have kp : ∀ b o, s.heap.get? b = some o → (pushCells (s.heap.push { cls := .type "dict", data := .dict #[] }) scope.names).get? b = some o := fun b o e => pushCells_keeps _ _ _ _ (Heap.get?_push_of_some _ e)
  have hL : cenv.locals = s.heap.objs.size := by rw [← hcenv]; rfl
  have hcl : cenv.cells = cellsFrom (s.heap.objs.size + 1) scope.names (cloFrom X.env.cells scope.names []) := by rw [← hcenv]; rfl
  have hsc : cenv.scope = relS scope X.env.scope := by rw [← hcenv]; rfl
  rw [← Heap.size_push s.heap { cls := .type "dict", data := .dict #[] }] at hcl
  have cm : ∀ {y c}, (y, c) ∈ cloFrom X.env.cells scope.names [] → X.env.cells.lookup y = some c ∧ c < s.heap.objs.size := fun {y c} hm => by
    rcases cloFrom_mem hm with hm | ⟨h1, rfl⟩
    · cases hm
    · obtain ⟨c, hc⟩ := hfree _ h1 rfl
      rw [hc]
      obtain ⟨w, z⟩ := I.cell _ _ hc
      exact ⟨rfl, z.lt⟩
  have mem : ∀ {y c}, cenv.cells.lookup y = some c → (X.env.cells.lookup y = some c ∧ c < s.heap.objs.size) ∨ (s.heap.objs.size + 1 ≤ c ∧ CellAt (pushCells (s.heap.push { cls := .type "dict", data := .dict #[] }) scope.names) c none) := fun {y c} e => by
    rw [hcl] at e
    rcases cells_mem (PySem.mem_of_lookup e) with hm | ⟨_, h2, h3⟩
    · exact .inl (cm hm)
    · rw [Heap.size_push] at h2; exact .inr ⟨h2, h3⟩
  have look : ∀ {y}, scope.names.lookup y = some .free → ∃ c, cenv.cells.lookup y = some c ∧ X.env.cells.lookup y = some c := fun {y} hl => by
    have hy : (y, NameKind.free) ∈ scope.names := PySem.mem_of_lookup hl
    obtain ⟨c', e'⟩ := mem_lookup (cells_acc (names := scope.names) (n := (s.heap.push { cls := .type "dict", data := .dict #[] }).objs.size) (cloFrom_has (cells := X.env.cells) (acc := []) hy))
    rw [← hcl] at e'
    refine ⟨c', e', ?_⟩
    rw [hcl] at e'
    rcases cells_mem (PySem.mem_of_lookup e') with hm | ⟨h1, _, _⟩
    · exact (cm hm).1
    · have := ok.uniq _ h1
      rw [hl] at this; cases this
  have okB : (X.blk s H scope cenv fp).Ok := by
    refine ⟨I.ok.mod, by show cenv.scope.kind = _; rw [hsc]; exact ok.kind, by show cenv.globals = _; rw [← hcenv]; exact I.ok.glob, by show cenv.builtins = _; rw [← hcenv]; exact I.ok.blt, by show s.heap.objs.size ≤ cenv.locals; rw [hL]; exact Nat.le_refl _,
      fun y z c e1 e2 => ?_, fun y hy => ?_, fun y c z e => ?_, I.ok.hd, I.ok.frames, .inl rfl, fun b hb => ⟨?_, fun y c e z => ?_⟩, I.bs, Nat.le_trans I.ok.bsz I.sz, fun b o e hb => ?_, fun b hb z => ?_, I.stack, I.stkFree⟩
    · have e1 : cenv.cells.lookup y = some c := e1
      have e2 : cenv.cells.lookup z = some c := e2
      rw [hcl] at e1 e2
      refine cells_inj (fun p hp => ?_) (fun y z c a b => I.ok.inj y z c (cm a).1 (cm b).1) (PySem.mem_of_lookup e1) (PySem.mem_of_lookup e2)
      rw [Heap.size_push]
      exact Nat.lt_succ_of_lt (cm (y := p.1) (c := p.2) hp).2
    · show ∃ c, cenv.cells.lookup y = some c
      have key : ∀ k, cenv.kindOf y = some k → (k = .cell ∨ k = .free) → ∃ c, cenv.cells.lookup y = some c := fun k hk hk' => by
        unfold Env.kindOf at hk
        rw [hsc] at hk
        obtain ⟨k', e, r⟩ := lookup_relS hk
        have : k' = .cell ∨ k' = .free := by
          rcases r with rfl | ⟨rfl, _⟩
          · exact hk'
          · exact .inr rfl
        rcases this with rfl | rfl
        · obtain ⟨c, hm⟩ := cells_has (n := (s.heap.push { cls := .type "dict", data := .dict #[] }).objs.size) (acc := cloFrom X.env.cells scope.names []) (PySem.mem_of_lookup e)
          obtain ⟨c', e'⟩ := mem_lookup hm
          exact ⟨c', by rw [hcl]; exact e'⟩
        · obtain ⟨c, h1, _⟩ := look e
          exact ⟨c, h1⟩
      rcases hy with hy | hy
      · exact key _ hy (.inl rfl)
      · exact key _ hy (.inr rfl)
    · have z : (scope.names.lookup y == some NameKind.cell) = true := z
      have z : scope.names.lookup y = some .cell := by simpa using z
      have e : cenv.cells.lookup y = some c := e
      rw [hcl] at e
      rcases cells_mem (PySem.mem_of_lookup e) with hm | ⟨_, h2, _⟩
      · rcases cloFrom_mem hm with hm | ⟨h1, _⟩
        · cases hm
        · have q := ok.uniq _ h1
          rw [z] at q; cases q
      · rw [Heap.size_push] at h2
        exact Nat.le_of_succ_le h2
    · show b ≠ cenv.locals
      rw [hL]; exact Nat.ne_of_lt (hfp b hb).2
    · have e : cenv.cells.lookup y = some c := e
      rcases mem e with ⟨h1, _⟩ | ⟨h1, _⟩
      · exact (hfp b hb).1.2.2.2.2.1 y c h1 z
      · have h2 : s.heap.objs.size + 1 ≤ b := by rw [← z]; exact h1
        exact absurd (Nat.lt_of_lt_of_le (hfp b hb).2 (Nat.le_of_succ_le h2)) (Nat.lt_irrefl _)
    · rcases (hfp b hb).1.2.2.2.1 with z | z
      · exact I.ok.noex b o e z
      · exact absurd (Nat.lt_of_lt_of_le (Heap.lt_size e) (Nat.le_trans I.ok.bsz z)) (Nat.lt_irrefl _)
    · rcases List.mem_cons.mp (I.stkSub b z) with z | z
      · exact (hfp b hb).1.2.1 z
      · exact (hfp b hb).1.2.2.1 z
  refine ⟨okB, rfl, I.bare, Un.kept kp, ⟨fun _ => none, ?_, fun i y av e1 e2 e3 => ?_⟩, fun y c e => ?_, ?_, fun y c e => ?_, fun p hp => ?_, I.hok.kept kp, by rw [wipe_length]; exact I.len⟩
  · show Heap.Ns _ cenv.locals _
    rw [hL]
    exact Heap.Ns.keeps (Heap.Ns.new ..) fun b o e => pushCells_keeps _ _ _ _ e
  · obtain ⟨e2, hne⟩ := wipe_some e2
    have hfr : scope.names.lookup y = some .free ∧ (cenv.kindOf y = some .cell ∨ cenv.kindOf y = some .free) := by
      have key : ∀ k, cenv.scope.names.lookup y = some k → k = .local ∨ k = .cell ∨ k = .free → scope.names.lookup y = some .free ∧ (cenv.kindOf y = some .cell ∨ cenv.kindOf y = some .free) := fun k hk hk' => by
        have hk0 := hk
        rw [hsc] at hk
        obtain ⟨k', e, r⟩ := lookup_relS hk
        have no : ¬ (k' = .local ∨ k' = .cell) := fun hh => by
          rcases ok.own _ (PySem.mem_of_lookup e) hh with e' | e'
          · obtain ⟨p, hp, hpy⟩ := List.mem_map.mp e'
            have e3 := ok.ix p hp
            have : p.1 = y := hpy
            rw [this] at e3
            exact hne (List.mem_map.mpr ⟨p, hp, nodup_ix hN e3 e1⟩)
          · exact e' (List.mem_of_getElem? e1)
        rcases r with rfl | ⟨rfl, rfl⟩
        · rcases hk' with rfl | rfl | rfl
          · exact absurd (.inl rfl) no
          · exact absurd (.inr rfl) no
          · exact ⟨e, .inr hk0⟩
        · exact ⟨e, .inl hk0⟩
      have e3 : Vis cenv.scope y := e3
      rcases e3 with e3 | e3 | e3
      · exact key _ e3 (.inl rfl)
      · exact key _ e3 (.inr (.inl rfl))
      · exact key _ e3 (.inr (.inr rfl))
    obtain ⟨m, hn, hl⟩ := I.loc
    have hvis : Vis X.env.scope y := (ok.free _ (PySem.mem_of_lookup hfr.1) rfl).elim (fun k => .inr (.inl k)) (fun k => .inr (.inr k))
    obtain ⟨w, r, q⟩ := hl i y av e1 e2 hvis
    refine ⟨w, r, .inr ⟨hfr.2, ?_⟩⟩
    obtain ⟨c, h1, h2⟩ := look hfr.1
    rcases q with ⟨k, _⟩ | ⟨_, c', e', z⟩
    · have k : X.env.scope.names.lookup y = some .local := k
      rcases ok.free _ (PySem.mem_of_lookup hfr.1) rfl with k' | k' <;> rw [show X.env.scope.names.lookup y = _ from k'] at k <;> cases k
    · rw [h2] at e'; cases e'
      exact ⟨c, h1, z.keeps kp⟩
  · have e : cenv.cells.lookup y = some c := e
    rcases mem e with ⟨h1, _⟩ | ⟨_, z⟩
    · obtain ⟨w, z⟩ := I.cell y c h1
      exact ⟨w, z.keeps kp⟩
    · exact ⟨_, z⟩
  · show H cenv.locals = none
    rw [hL]; exact I.hok.fresh (Nat.le_refl _)
  · have e : cenv.cells.lookup y = some c := e
    rcases mem e with ⟨h1, _⟩ | ⟨h1, _⟩
    · exact I.freeC y c h1
    · exact I.hok.fresh (Nat.le_of_succ_le h1)
  · exact absurd (show p ∈ ([] : List (Addr × Obj)) ++ [] from hp) (by simp)
/-- an item appended to a tracked list -/
theorem app_ok {E : Value → Shared → Prop} {D : Addr} {xs : List V} {y : V} {v : Value} {Q : Value → Shared → Prop} (I : Inv X pins σ H s) (hD : H D = some (.lst xs)) (hz : xs.length < sizeLine) (r : RelV y v)
    (h : ∀ s', Inv X pins σ (upd H D (.lst (xs ++ [y]))) s' → Q .none s') : wpAny (model X.prog X.w) X.A (call (.builtin "list.append") [.ref D, v]) Q E s := by
  obtain ⟨hz', its, n, ri, e⟩ := I.hok D _ hD
  have hl := ri.length
  refine append_at (hsz := by rw [List.size_toArray]; omega) e fun h' sb ho' => ?_
  refine h { s with heap := h' } (I.write (t' := s.toks) (by rw [hD]; trivial) (.inl rfl) (fun b u hb q => (sb.2 b hb).trans q) ⟨_, ho'⟩ ⟨by rw [List.length_append]; exact hz, its ++ [v], n + 1, ri.append (.cons r .nil), ?_⟩)
  rw [ho']
  simp
/-- a clause's tests -/
def PTs (X : Cx) (ifs : List Expr) (t : TT) : Prop :=
  ∀ (pins : List (Addr × Obj)) (s : Shared) (σ : St) (H : Hp) (Q : Bool → Hp → Prop), Inv X pins σ H s → t σ H Q →
    wpAny (model X.prog X.w) X.A (forIn ifs true fun c r => if r = true then do let ok ← isTrue c X.env (eval c X.env); pure (ForInStep.yield ok) else pure (ForInStep.yield r)) (TP X pins σ Q) X.xe s
def tYes : TT := fun _ H Q => Q true H
theorem pts_nil : PTs X [] tYes := fun _ _ _ H _ I h => wpAny_tests_nil ⟨H, I, h⟩
theorem pts_one {c : Expr} {t : TT} (h : PT X c t) : PTs X [c] t := fun pins s σ H Q I hw => wpAny_tests_one (h pins s σ H Q I hw)
end
theorem thnF {α : Type} {t : Sem α} {Q Q' : α → Shared → Prop} {M : Model} {A : Around} {E : Value → Shared → Prop} {s : Shared} (h : wpAny M A t Q (fun _ _ => False) s) (hQ : ∀ a s, Q a s → Q' a s) : wpAny M A t Q' E s := wpAny_mono h hQ fun _ _ z => False.elim z
/-- the loop of a list comprehension's block, the target of any form (codeAny_compLoop_tests asks a target that no tuple goes to; statement and proof follow it, PyProof/CompMap.lean:41-61, with the step letOwnedTupleGo kept) -/
theorem compLoop_any {prog : Program} {w : World} {A : Around} {R : Result → Shared → Prop} {s : Shared} {elt target iter : Expr} {ifs : List Expr} {scope : Scope} {pos : Pos} {it acc : Value} {env : Env} (I : Nat → Shared → Prop)
    (turn : ∀ n s, I n s → wpAny (model prog w) A (pyNext it) (fun r s₁ => match r with
      | none => R (.ok .next) s₁
      | some v => wpAny (model prog w) A (letOwnedTupleGo target it v) (fun _ s₁' => wpAny (model prog w) A (assign target env v) (fun _ s₂ =>
          wpAny (model prog w) A (forIn ifs true fun c r => if r = true then do let ok ← isTrue c env (eval c env); pure (ForInStep.yield ok) else pure (ForInStep.yield r)) (fun ok s₃ =>
            if ok = true then wpAny (model prog w) A (eval elt env) (fun x s₄ =>
              wpAny (model prog w) A (call (.builtin "list.append") [acc, x]) (fun _ s₅ => ∃ m, m < n ∧ I m s₅) (notedBy (model prog w) A env fun e s' => R (.error e) s') s₄) (notedBy (model prog w) A env fun e s' => R (.error e) s') s₃
            else ∃ m, m < n ∧ I m s₃) (notedBy (model prog w) A env fun e s' => R (.error e) s') s₂) (notedBy (model prog w) A env fun e s' => R (.error e) s') s₁') (notedBy (model prog w) A env fun e s' => R (.error e) s') s₁) (notedBy (model prog w) A env fun e s' => R (.error e) s') s)
    (n : Nat) (h : I n s) :
    codeAny (model prog w) A (.compLoop (.ListComp elt [⟨target, iter, ifs, 0⟩] scope pos) 0 it acc env) R s := by
  refine codeAny_loop rfl I (fun n s hI => ?_) n h
  show wpAny _ A ((compTurn (.ListComp elt [⟨target, iter, ifs, 0⟩] scope pos) 0 it acc env).onRaise (fun x => do noteFrame x env; theTreesLotGoes x)) _ _ s
  refine wpAny_noted ?_
  rw [compTurn_list]
  refine wpAny_bind (wpAny_standAt (wpAny_bind (wpAny_mono (turn n s hI) (fun r s₁ h₁ => ?_) fun _ _ h' => h')))
  cases r with
  | none => exact wpAny_pure h₁
  | some v =>
    refine wpAny_bind (wpAny_mono h₁ (fun _ s₁' h₁' => ?_) fun _ _ h' => h')
    refine wpAny_bind (wpAny_mono h₁' (fun _ s₂ h₂ => wpAny_bind (wpAny_mono h₂ (fun ok s₃ h₃ => ?_) fun _ _ h' => h')) fun _ _ h' => h')
    cases ok with
    | false => exact wpAny_pure ⟨rfl, h₃⟩
    | true =>
      exact wpAny_bind (wpAny_bind (wpAny_mono h₃ (fun x s₄ h₄ => wpAny_bind (wpAny_mono h₄ (fun _ s₅ h₅ => wpAny_pure (wpAny_pure ⟨rfl, h₅⟩)) fun _ _ h' => h')) fun _ _ h' => h'))
section
variable {X : Cx}
/-- [elt for target in iter if ..]: D the new list; W by the turn and a measure, Nx what a turn is to reach -/
def tLc (wi : TI) (g : TG) (tt : TT) (te : TE) (vs : List Nat) : TE := fun σ H Q => wi σ H fun J H1 => ∀ D, H1 D = none → ∃ W : Nat → Nat → Hp → Prop, (∃ m, W 0 m (upd H1 D (.lst []))) ∧ ∀ i m H, W i m H →
  (J.stop i H ∧ Q (.ref D) H) ∨ (J.go i H ∧ ∃ Nx : Hp → Prop, (∀ H', Nx H' → ∃ m', m' < m ∧ W (i + 1) m' H') ∧ ∀ x H', J.yld i H x H' → g x (wipe σ vs) H' fun σ2 H2 => wipe σ2 vs = wipe σ vs ∧ tt σ2 H2 fun b H3 =>
    if b = true then te σ2 H3 fun y H4 => ∃ acc, H4 D = some (.lst acc) ∧ acc.length < sizeLine ∧ Nx (upd H4 D (.lst (acc ++ [y]))) else Nx H3)
theorem lc_core {pins : List (Addr × Obj)} {s : Shared} {σ : St} {H : Hp} {Q : VK} {elt tg iter : Expr} {ifs : List Expr} {scope : Scope} {own : List (Str × Nat)} {pos pos' : Pos} {wi : TI} {g : TG} {tt : TT} {te : TE} {use : Option (Value → Sem Unit)} {Qf : Value → Shared → Prop}
    (hc : X.calm = true) (hN : X.N.Nodup) (I : Inv X pins σ H s) (hi : PI X tg iter wi) (ok : BlkOk X.N X.env.scope scope own)
    (hg : ∀ (s : Shared) (H : Hp) (C : Addr) (cl : List (Str × Addr)) (fp : List Addr), PG (X.blk s H scope (compEnvC scope cl C X.env) fp) tg g) (ht : ∀ (s : Shared) (H : Hp) (C : Addr) (cl : List (Str × Addr)) (fp : List Addr), PTs (X.blk s H scope (compEnvC scope cl C X.env) fp) ifs tt)
    (he : ∀ (s : Shared) (H : Hp) (C : Addr) (cl : List (Str × Addr)) (fp : List Addr), PE (X.blk s H scope (compEnvC scope cl C X.env) fp) elt te) (hs : ∀ x, foldedSetIterable iter X.env x = pure x)
    (h : tLc wi g tt te (own.map (·.2)) σ H Q)
    (hRR : ∀ D C s' m H', Inv X pins σ H' s' → Q (.ref D) H' → s'.heap.Ns C m → FpOk X pins H' C → compPost (model X.prog X.w) X.A X.xe use Qf (.ref D) C (.ok .next) s') :
    wpAny (model X.prog X.w) X.A (comprehension (.ListComp elt [⟨tg, iter, ifs, 0⟩] scope pos) scope X.env pos' (newList []) false (eval iter X.env) use) Qf X.xe s := by
  have hfree : ∀ y ∈ scope.names, y.2 = .free → ∃ c, X.env.cells.lookup y.1 = some c := fun y hy e => by
    rcases ok.free y hy e with k | k
    · exact I.ok.has _ (.inl k)
    · exact I.ok.has _ (.inr k)
  refine wpAny_comprehension_free (use := use) rfl hs (closure_ok hfree) ok.kind (fun y hy e => by rw [ok.uniq y hy, e])
    (thn (hi pins s σ H _ I h) fun xv s1 hx => thn hx fun itv s2 h2 => ?_)
  obtain ⟨it, fp, tn, J, H2, e, I2, T, st2, f2, q⟩ := h2
  subst e
  refine wpAny_newObj_type (newEnv_comp ?_) (by show 0 ≤ sizeLine; decide)
  generalize hD : s2.heap.objs.size = D
  have hDn : H2 D = none := I2.hok.fresh (Nat.le_of_eq hD)
  obtain ⟨W, ⟨m0, w0⟩, turn⟩ := q D hDn
  -- the new list
  generalize hs3 : ({ s2 with heap := s2.heap.push { cls := .type "list", data := .seq ([] : List Value).toArray } } : Shared) = s3
  have I3 : Inv X pins σ (upd H2 D (.lst [])) s3 := by
    rw [← hs3]
    refine I2.laid (t' := s2.toks) (fun b o e => Heap.get?_push_of_some _ e) (Nat.le_of_eq hD) ⟨Nat.zero_le _, [], 0, .nil, ?_⟩
    rw [← hD]
    exact Heap.get?_push_size _ rfl
  have h3 : s3.heap = s2.heap.push { cls := .type "list", data := .seq ([] : List Value).toArray } := by rw [← hs3]
  have sz : ∀ b ∈ fp, b < s2.heap.objs.size := fun b hb => by
    obtain ⟨o, e, _⟩ := T.obj _ _ st2 b hb
    exact Heap.lt_size e
  have f3 : ∀ b ∈ fp, FpOk X pins (upd H2 D (.lst [])) b ∧ b < s3.heap.objs.size := fun b hb => by
    have hlt := sz b hb
    refine ⟨⟨?_, (f2 b hb).2⟩, by rw [h3, Heap.size_push]; exact Nat.lt_succ_of_lt hlt⟩
    rw [upd_ne (by rw [← hD]; exact Nat.ne_of_lt hlt)]
    exact (f2 b hb).1
  have st3 : tn 0 s3.heap := T.keep _ _ _ st2 fun b _ o e => by rw [h3]; exact Heap.get?_push_of_some _ e
  have I4 := block_start I3 ok hN f3
  have pg := hg s3 (upd H2 D (.lst [])) s3.heap.objs.size (cellsFrom (s3.heap.objs.size + 1) scope.names (cloFrom X.env.cells scope.names [])) fp
  have pt := ht s3 (upd H2 D (.lst [])) s3.heap.objs.size (cellsFrom (s3.heap.objs.size + 1) scope.names (cloFrom X.env.cells scope.names [])) fp
  have pe := he s3 (upd H2 D (.lst [])) s3.heap.objs.size (cellsFrom (s3.heap.objs.size + 1) scope.names (cloFrom X.env.cells scope.names [])) fp
  show codeAny _ _ (.compStart (.ListComp elt [⟨tg, iter, ifs, 0⟩] scope pos) 0 (.ref it) (.ref D) (compEnvC scope (cellsFrom (s3.heap.objs.size + 1) scope.names (cloFrom X.env.cells scope.names [])) s3.heap.objs.size X.env)) (compPost (model X.prog X.w) X.A X.xe use Qf (.ref D) s3.heap.objs.size) { s3 with heap := pushCells (s3.heap.push { cls := .type "dict", data := .dict #[] }) scope.names }
  have nfp : ∀ b ∈ fp, (upd H2 D (.lst [])) b = none := fun b hb => (f3 b hb).1.1
  generalize hce : compEnvC scope (cellsFrom (s3.heap.objs.size + 1) scope.names (cloFrom X.env.cells scope.names [])) s3.heap.objs.size X.env = ce at I4 pg pt pe ⊢
  have cL : ce.locals = s3.heap.objs.size := by subst hce; rfl
  generalize hH3 : upd H2 D (.lst []) = H3 at I3 I4 pg pt pe w0 nfp f3
  generalize hs4 : ({ s3 with heap := pushCells (s3.heap.push { cls := .type "dict", data := .dict #[] }) scope.names } : Shared) = s4 at I4 ⊢
  have st4 : tn 0 s4.heap := T.keep _ _ _ st3 fun b _ o e => by rw [← hs4]; exact pushCells_keeps _ _ _ _ (Heap.get?_push_of_some _ e)
  have stat : ∀ {σ' : St} {H' : Hp} {s' : Shared}, Inv (X.blk s3 H3 scope ce fp) [] σ' H' s' → (∀ b ∈ fp, H' b = none) → ∀ b ∈ fp, FpOk (X.blk s3 H3 scope ce fp) [] H' b := fun {σ' H' s'} I' hn b hb =>
    ⟨hn b hb, (I'.ok.exf b hb).1, I'.ok.exfs b hb, .inl hb, fun x c e => (I'.ok.exf b hb).2 x c e, fun p hp => absurd (show p ∈ ([] : List (Addr × Obj)) ++ [] from hp) (by simp)⟩
  have loop : codeAny (model X.prog X.w) X.A (.compLoop (.ListComp elt [⟨tg, iter, ifs, 0⟩] scope pos) 0 (.ref it) (.ref D) ce) (compPost (model X.prog X.w) X.A X.xe use Qf (.ref D) s3.heap.objs.size) s4 := by
    refine compLoop_any (fun n s' => ∃ i H', Inv (X.blk s3 H3 scope ce fp) [] (wipe σ (own.map (·.2))) H' s' ∧ tn i s'.heap ∧ (∀ b ∈ fp, H' b = none) ∧ W i n H') ?_ m0 ⟨0, H3, I4, st4, nfp, w0⟩
    rintro n s5 ⟨i, H5, I5, st5, n5, w5⟩
    rcases turn i n H5 w5 with ⟨stop, qq⟩ | ⟨go, Nx, hNx, step⟩
    · have td := T.done (X.blk s3 H3 scope ce fp) rfl rfl rfl hc i [] s5 _ H5 (fun _ _ => False) I5 (stat I5 n5) st5 stop
      refine thnF td fun r s6 ⟨hr, I6⟩ => ?_
      subst hr
      -- back in the def's context
      have I7 : Inv X pins σ H5 s6 := I3.call' (ch := fp) I6.os I6.base I6.hok I6.bare fun b hb => ⟨(f3 b hb).1.2.2.2.1, (f3 b hb).1.2.1, (f3 b hb).1.2.2.2.2.1, (f3 b hb).1.2.2.2.2.2⟩
      have nC : H5 s3.heap.objs.size = none := by
        have z : H5 ce.locals = none := I6.free
        rw [cL] at z
        exact z
      obtain ⟨m, hn, _⟩ := I6.loc
      have hn : s6.heap.Ns ce.locals m := hn
      rw [cL] at hn
      exact hRR D s3.heap.objs.size s6 m H5 I7 qq hn (I3.fpOk (Nat.le_refl _) nC)
    · have ti := T.item (X.blk s3 H3 scope ce fp) rfl rfl rfl hc i [] s5 _ H5 (fun _ _ => False) I5 (stat I5 n5) st5 go
      refine thnF ti fun r s6 ⟨u, hr, h6⟩ => ?_
      subst hr
      refine thnF h6 fun _ s7 ⟨x, H7, I7, r7, y7, st7, n7⟩ => ?_
      have I7' := I7.pinned (stat I7 n7) (T.obj _ _ st7)
      refine thnF (pg _ s7 _ H7 x u _ I7' r7 (step x H7 y7)) fun _ s8 ⟨σ8, H8, I8, hw8, q8⟩ => ?_
      refine thnF (pt _ s8 σ8 H8 _ I8 q8) fun b s9 ⟨H9, I9, q9⟩ => ?_
      -- the turn's end
      have fin : ∀ {s' : Shared} {H' : Hp}, Inv (X.blk s3 H3 scope ce fp) ([] ++ pinsAt fp s7.heap) σ8 H' s' → Nx H' → ∃ m, m < n ∧ ∃ i H', Inv (X.blk s3 H3 scope ce fp) [] (wipe σ (own.map (·.2))) H' s' ∧ tn i s'.heap ∧ (∀ b ∈ fp, H' b = none) ∧ W i m H' := fun {s' H'} I' nx => by
        obtain ⟨m', hm, w'⟩ := hNx H' nx
        have pin' : ∀ b ∈ fp, ∀ o, s7.heap.get? b = some o → s'.heap.get? b = some o ∧ H' b = none := fun b hb o e =>
          let z := I'.pin (b, o) (List.mem_append_right _ (List.mem_append_right _ (mem_pinsAt hb e)))
          ⟨z.1, z.2.1⟩
        have hl : (wipe σ (own.map (·.2))).length = σ8.length := by rw [← hw8, wipe_length]
        refine ⟨m', hm, i + 1, H', (I'.unpinned (pins := [])).weak hl (fun j v e => ?_), T.keep _ _ _ st7 fun b hb o e => (pin' b hb o e).1, fun b hb => ?_, w'⟩
        · rw [← hw8] at e
          exact (wipe_some e).1
        · obtain ⟨o, e, _⟩ := T.obj _ _ st7 b hb
          exact (pin' b hb o e).2
      cases b with
      | false =>
        simp only [Bool.false_eq_true, if_false] at q9 ⊢
        exact fin I9 q9
      | true =>
        simp only [if_true] at q9 ⊢
        refine thnF (pe _ s9 σ8 H9 _ I9 q9) fun z s10 ⟨yv, H10, I10, r10, acc, hD10, hz10, nx⟩ => ?_
        exact app_ok (X := X.blk s3 H3 scope ce fp) I10 hD10 hz10 r10 fun s11 I11 => fin I11 nx
  exact codeAny_compStart_list loop (T.self X.A 0 _ _ _ st4 loop)
/-- as a value -/
theorem pe_lc {elt tg iter : Expr} {ifs : List Expr} {scope : Scope} {own : List (Str × Nat)} {pos : Pos} {wi : TI} {g : TG} {tt : TT} {te : TE} (hc : X.calm = true) (hN : X.N.Nodup) (hi : PI X tg iter wi) (ok : BlkOk X.N X.env.scope scope own)
    (hg : ∀ (s : Shared) (H : Hp) (C : Addr) (cl : List (Str × Addr)) (fp : List Addr), PG (X.blk s H scope (compEnvC scope cl C X.env) fp) tg g) (ht : ∀ (s : Shared) (H : Hp) (C : Addr) (cl : List (Str × Addr)) (fp : List Addr), PTs (X.blk s H scope (compEnvC scope cl C X.env) fp) ifs tt)
    (he : ∀ (s : Shared) (H : Hp) (C : Addr) (cl : List (Str × Addr)) (fp : List Addr), PE (X.blk s H scope (compEnvC scope cl C X.env) fp) elt te) (hs : ∀ x, foldedSetIterable iter X.env x = pure x := by intro _; rfl) :
    PE X (.ListComp elt [⟨tg, iter, ifs, 0⟩] scope pos) (tLc wi g tt te (own.map (·.2))) := by
  intro pins s σ H Q I h
  rw [eval_ListComp]
  refine lc_core hc hN I hi ok hg ht he hs h fun D C s' m H' I' q hn f => ⟨m, hn, fun h'' sb => ?_⟩
  obtain ⟨f0, f1, f2, f3, f4, f5⟩ := f
  exact ⟨.ref D, H', I'.turned (t' := s'.toks) (fun b o hb e => (sb.2 b hb).trans e) f0 f1 f3 f4 f5, rfl, q⟩
/-- name = [..] on one line, the name a local -/
theorem ps_setLc {i : Nat} {y : Str} {py : Pos} {elt tg iter : Expr} {ifs : List Expr} {scope : Scope} {own : List (Str × Nat)} {pos spos : Pos} {wi : TI} {g : TG} {tt : TT} {te : TE} (hc : X.calm = true) (hN : X.N.Nodup) (hy : X.N[i]? = some y) (hyl : X.env.scope.names.lookup y = some .local)
    (hsw : swapsWith (.ListComp elt [⟨tg, iter, ifs, 0⟩] scope pos) (some (.Name y py)) spos.line X.env = pure true) (hi : PI X tg iter wi) (ok : BlkOk X.N X.env.scope scope own)
    (hg : ∀ (s : Shared) (H : Hp) (C : Addr) (cl : List (Str × Addr)) (fp : List Addr), PG (X.blk s H scope (compEnvC scope cl C X.env) fp) tg g) (ht : ∀ (s : Shared) (H : Hp) (C : Addr) (cl : List (Str × Addr)) (fp : List Addr), PTs (X.blk s H scope (compEnvC scope cl C X.env) fp) ifs tt)
    (he : ∀ (s : Shared) (H : Hp) (C : Addr) (cl : List (Str × Addr)) (fp : List Addr), PE (X.blk s H scope (compEnvC scope cl C X.env) fp) elt te) (hs : ∀ x, foldedSetIterable iter X.env x = pure x := by intro _; rfl) :
    PS X (.Assign [.Name y py] (.ListComp elt [⟨tg, iter, ifs, 0⟩] scope pos) spos) (tAsg (tLc wi g tt te (own.map (·.2))) (gName i)) := by
  intro pins s σ H D I h
  rw [exec_Assign_Name_used _ _ _ _ hsw]
  refine wpAny_bind (wpAny_standAt (wpAny_bind ?_))
  show wpAny _ X.A (do let _ ← comprehension (.ListComp elt [⟨tg, iter, ifs, 0⟩] scope pos) scope X.env (firstIterPos [⟨tg, iter, ifs, 0⟩] pos) (newList []) false (eval iter X.env) (some (assign (.Name y py) X.env))) _ _ s
  have h : tLc wi g tt te (own.map (·.2)) σ H (fun x H1 => gName i x σ H1 D.nx) := h
  refine wpAny_bind (thn (lc_core (Qf := fun _ s' => SP X pins D .next s') hc hN I hi ok hg ht he hs h fun L C s' m H' I' q hn f => ?_) fun _ s' hq => wpAny_pure (wpAny_pure hq))
  show wpAny _ _ (assign (.Name y py) X.env (.ref L)) _ _ _
  refine wpAny_assign_Name (store_ok2 (v := V.ref L) I' hN hy (.inl hyl) rfl (fun s2 I2 ⟨a, sb, ha⟩ => ?_) (.inr hyl))
  obtain ⟨f0, f1, f2, f3, f4, f5⟩ := f
  have haC : C ≠ a := by
    rcases ha with z | z
    · rw [z]; exact f1
    · exact fun e => f4 y a z e.symm
  refine ⟨m, hn.sameBut sb haC, fun h3 sb3 => ?_⟩
  exact ⟨_, H', I2.turned (t' := s2.toks) (fun b o hb e => (sb3.2 b hb).trans e) f0 f1 f3 f4 f5, q⟩
theorem sw_true {elt : Expr} {gs : List Comprehension} {scope : Scope} {pos py : Pos} {y : Str} {l : Nat} {env : Env} (hk : env.scope.kind = .function) (hy : env.scope.names.lookup y = some .local) (hl : (py.line == pos.line) = true)
    (ha : (scope.names.any fun (n, k) => n == y && (k == .local || k == .cell)) = false) : swapsWith (.ListComp elt gs scope pos) (some (.Name y py)) l env = pure true := by
  have ky : env.kindOf y = some .local := hy
  have hb : env.blockKind = .function := by unfold Env.blockKind; rw [hk]; rfl
  unfold swapsWith
  simp only [hb, ky, ha, Expr.pos, hl]
  rfl
end
/-! ### the forms one uses -/
end L2
namespace L2
open PySem PySem.Spec PyProof.Rows
section
variable {prog : Program} {w : World} {A : Around} {R : Result → Shared → Prop} {s : Shared} {elt t0 i0 t1 i1 : Expr} {ifs0 ifs1 : List Expr} {scope : Scope} {pos : Pos} {it acc : Value} {env : Env}
end
section
variable {X : Cx}
end
end L2
namespace L2
open PySem PySem.Spec PyProof.Rows
/-! ### lists of pairs as tables -/
section
variable {κ : Type} [DecidableEq κ]
def valV (kvs : List (κ × V)) (k : κ) : Option V := (kvs.find? fun kv => decide (kv.1 = k)).map (·.2)
/-- in its place, or at the end -/
def putK (kvs : List (κ × V)) (k : κ) (v : V) : List (κ × V) :=
  if (kvs.any fun kv => decide (kv.1 = k)) = true then kvs.map (fun kv => if kv.1 = k then (kv.1, v) else kv) else kvs ++ [(k, v)]
def dropK (kvs : List (κ × V)) (k : κ) : List (κ × V) := kvs.filter fun kv => decide (kv.1 ≠ k)
theorem valV_pos {p : κ × V} {r : List (κ × V)} {k : κ} (e : p.1 = k) : valV (p :: r) k = some p.2 := by simp [valV, List.find?_cons, e]
theorem valV_neg {p : κ × V} {r : List (κ × V)} {k : κ} (e : ¬ p.1 = k) : valV (p :: r) k = valV r k := by simp [valV, List.find?_cons, e]
theorem valV_any (k : κ) : ∀ kvs : List (κ × V), (kvs.any fun kv => decide (kv.1 = k)) = (valV kvs k).isSome
  | [] => rfl
  | p :: r => by
    rw [List.any_cons]
    by_cases e : p.1 = k
    · simp only [valV_pos e, decide_eq_true e, Bool.true_or, Option.isSome_some]
    · rw [valV_neg e, decide_eq_false e, Bool.false_or]; exact valV_any k r
theorem RelO.isSome_eq {o : Option V} {u : Option Value} (r : RelO o u) : o.isSome = u.isSome := by
  cases o with
  | none => cases u with
    | none => rfl
    | some _ => exact (show False from r).elim
  | some _ => cases u with
    | none => exact (show False from r).elim
    | some _ => rfl
theorem RelO.getD {o : Option V} {u : Option Value} {d : V} {d' : Value} (r : RelO o u) (rd : RelV d d') : RelV (o.getD d) (u.getD d') := by
  cases o with
  | none => cases u with
    | none => exact rd
    | some _ => exact (show False from r).elim
  | some _ => cases u with
    | none => exact (show False from r).elim
    | some _ => exact r
/-- raw tables of the same keys -/
theorem KV.val {kvs : List (κ × V)} {vs : List (κ × Value)} (r : KV kvs vs) (k : κ) : RelO (valV kvs k) (valueAt vs k) := by
  unfold KV at r
  induction r with
  | nil => exact True.intro
  | @cons p q ps qs h t ih =>
    obtain ⟨h1, h2⟩ := h
    by_cases e : p.1 = k
    · have e' : q.1 = k := h1.symm.trans e
      have b : valueAt (q :: qs) k = some q.2 := by simp [valueAt, List.find?_cons, e']
      rw [valV_pos e, b]; exact h2
    · have e' : ¬ q.1 = k := fun z => e (h1.trans z)
      have b : valueAt (q :: qs) k = valueAt qs k := by simp [valueAt, List.find?_cons, e']
      rw [valV_neg e, b]; exact ih
theorem KV.any {kvs : List (κ × V)} {vs : List (κ × Value)} (r : KV kvs vs) (k : κ) : (kvs.any fun kv => decide (kv.1 = k)) = vs.any fun kv => decide (kv.1 = k) := by
  unfold KV at r
  induction r with
  | nil => rfl
  | cons h t ih => rw [List.any_cons, List.any_cons, ih, h.1]
theorem KV.repl {kvs : List (κ × V)} {vs : List (κ × Value)} (r : KV kvs vs) (k : κ) {y : V} {u : Value} (ry : RelV y u) :
    KV (kvs.map fun kv => if kv.1 = k then (kv.1, y) else kv) (vs.map fun kv => if kv.1 = k then (kv.1, u) else kv) := by
  unfold KV at r ⊢
  induction r with
  | nil => exact .nil
  | @cons p q ps qs h t ih =>
    rw [List.map_cons, List.map_cons]
    refine .cons ?_ ih
    obtain ⟨h1, h2⟩ := h
    by_cases e : p.1 = k
    · rw [if_pos e, if_pos (h1.symm.trans e)]; exact ⟨h1, ry⟩
    · rw [if_neg e, if_neg (fun z => e (h1.trans z))]; exact ⟨h1, h2⟩
theorem KV.put {kvs : List (κ × V)} {vs : List (κ × Value)} (r : KV kvs vs) (k : κ) {y : V} {u : Value} (ry : RelV y u) : KV (putK kvs k y) (stored vs k u) := by
  unfold putK stored
  rw [r.any k]
  by_cases e : (vs.any fun kv => decide (kv.1 = k)) = true
  · rw [if_pos e, if_pos e]; exact r.repl k ry
  · rw [if_neg e, if_neg e]; exact Paired.snoc r ⟨rfl, ry⟩
theorem KV.drop {kvs : List (κ × V)} {vs : List (κ × Value)} (r : KV kvs vs) (k : κ) : KV (dropK kvs k) (without vs k) := by
  unfold KV at r ⊢
  unfold dropK without
  induction r with
  | nil => exact .nil
  | @cons p q ps qs h t ih =>
    obtain ⟨h1, h2⟩ := h
    rw [List.filter_cons, List.filter_cons]
    by_cases e : p.1 = k
    · have a : ¬ decide (p.1 ≠ k) = true := by simp [e]
      have b : ¬ decide (q.1 ≠ k) = true := by simp [h1.symm.trans e]
      rw [if_neg a, if_neg b]; exact ih
    · have e' : ¬ q.1 = k := fun z => e (h1.trans z)
      have a : decide (p.1 ≠ k) = true := by simp [e]
      have b : decide (q.1 ≠ k) = true := by simp [e']
      rw [if_pos a, if_pos b]; exact .cons ⟨h1, h2⟩ ih
theorem KV.length {kvs : List (κ × V)} {vs : List (κ × Value)} (r : KV kvs vs) : kvs.length = vs.length := Paired.length r
end
/-! ### a tracked dict, its keys ints and texts or tuples of these -/
/-- raw entries of a dict with tuple keys -/
abbrev KT (H : Hp) : List (List Key × V) → List (List Key × Addr × Value) → Prop := Paired fun p q => p.1 = q.1 ∧ H q.2.1 = some (.tup (p.1.map kV)) ∧ RelV p.2 q.2.2
theorem KT.val {H : Hp} {kvs : List (List Key × V)} {xs : List (List Key × Addr × Value)} (r : KT H kvs xs) (k : List Key) : RelO (valV kvs k) ((atKey xs k).map (·.2)) := by
  induction r with
  | nil => exact True.intro
  | @cons p q ps qs h t ih =>
    obtain ⟨h1, _, h2⟩ := h
    by_cases e : p.1 = k
    · have e' : q.1 = k := h1.symm.trans e
      have b : atKey (q :: qs) k = some q.2 := by simp [atKey, List.find?_cons, e']
      rw [valV_pos e, b]; exact h2
    · have e' : ¬ q.1 = k := fun z => e (h1.trans z)
      have b : atKey (q :: qs) k = atKey qs k := by simp [atKey, List.find?_cons, e']
      rw [valV_neg e, b]; exact ih
theorem KT.repl {H : Hp} {kvs : List (List Key × V)} {xs : List (List Key × Addr × Value)} (r : KT H kvs xs) (k : List Key) {y : V} {u : Value} (ry : RelV y u) :
    KT H (kvs.map fun kv => if kv.1 = k then (kv.1, y) else kv) (xs.map (putAt k u)) := by
  induction r with
  | nil => exact .nil
  | @cons p q ps qs h t ih =>
    rw [List.map_cons, List.map_cons]
    refine .cons ?_ ih
    obtain ⟨h1, h2, h3⟩ := h
    unfold putAt
    by_cases e : p.1 = k
    · rw [if_pos e, if_pos (h1.symm.trans e)]; exact ⟨h1, h2, ry⟩
    · rw [if_neg e, if_neg (fun z => e (h1.trans z))]; exact ⟨h1, h2, h3⟩
theorem KT.put {H : Hp} {kvs : List (List Key × V)} {xs : List (List Key × Addr × Value)} (r : KT H kvs xs) (k : List Key) {b : Addr} {y : V} {u : Value} (hb : H b = some (.tup (k.map kV))) (ry : RelV y u) :
    KT H (putK kvs k y) (storedH xs k b u) := by
  have e : (kvs.any fun kv => decide (kv.1 = k)) = (atKey xs k).isSome := by
    rw [valV_any, (r.val k).isSome_eq, Option.isSome_map]
  unfold putK storedH
  rw [e]
  by_cases q : (atKey xs k).isSome = true
  · rw [if_pos q, if_pos q]; exact r.repl k ry
  · rw [if_neg q, if_neg q]; exact Paired.snoc r ⟨rfl, hb, ry⟩
theorem KT.keeps {H H' : Hp} {kvs : List (List Key × V)} {xs : List (List Key × Addr × Value)} (r : KT H kvs xs) (ht : ∀ b ys, H b = some (.tup ys) → H' b = some (.tup ys)) : KT H' kvs xs :=
  Paired.mapP r fun _ _ z => ⟨z.1, ht _ _ z.2.1, z.2.2⟩
section
variable {P : Program} {w : World} {H : Hp} {h : Heap} {a : Addr}
end
/-- what the dict at a holds at the key y -/
def DGet (H : Hp) (a : Addr) (y : V) (r : Option V) : Prop :=
  (∃ kvs k, Rd H a (.dK kvs) ∧ y = kV k ∧ r = valV kvs k) ∨ ∃ kvs k b, Rd H a (.dT kvs) ∧ y = .ref b ∧ H b = some (.tup (k.map kV)) ∧ r = valV kvs k
/-- the heap behind a[y] = v -/
def DPut (H : Hp) (a : Addr) (y v : V) (H' : Hp) : Prop :=
  (∃ kvs k, H a = some (.dK kvs) ∧ y = kV k ∧ kvs.length < sizeLine ∧ H' = upd H a (.dK (putK kvs k v))) ∨
  ∃ kvs k b, H a = some (.dT kvs) ∧ y = .ref b ∧ H b = some (.tup (k.map kV)) ∧ kvs.length < sizeLine ∧ H' = upd H a (.dT (putK kvs k v))
theorem DGet.k {H : Hp} {a : Addr} {kvs : List (Key × V)} {k : Key} (e : H a = some (.dK kvs)) : DGet H a (kV k) (valV kvs k) := .inl ⟨kvs, k, .inl e, rfl, rfl⟩
theorem DGet.t {H : Hp} {a b : Addr} {kvs : List (List Key × V)} {k : List Key} (e : H a = some (.dT kvs)) (eb : H b = some (.tup (k.map kV))) : DGet H a (.ref b) (valV kvs k) := .inr ⟨kvs, k, b, .inl e, rfl, eb, rfl⟩
theorem DPut.k {H : Hp} {a : Addr} {kvs : List (Key × V)} {k : Key} {v : V} (e : H a = some (.dK kvs)) (hl : kvs.length < sizeLine) : DPut H a (kV k) v (upd H a (.dK (putK kvs k v))) := .inl ⟨kvs, k, e, rfl, hl, rfl⟩
theorem DPut.t {H : Hp} {a b : Addr} {kvs : List (List Key × V)} {k : List Key} {v : V} (e : H a = some (.dT kvs)) (eb : H b = some (.tup (k.map kV))) (hl : kvs.length < sizeLine) :
    DPut H a (.ref b) v (upd H a (.dT (putK kvs k v))) := .inr ⟨kvs, k, b, e, rfl, eb, hl, rfl⟩
section
variable {X : Cx} {pins : List (Addr × Obj)} {σ : St} {H : Hp} {s : Shared} {a : Addr} {y v : V} {u r : Value} {o : Option V} {A : Around} {E : Value → Shared → Prop}
theorem Inv.big (I : Inv X pins σ H s) : sysModules < s.heap.objs.size := by
  have h : mainGlobals < s.heap.objs.size := (I.mod.glob.keeps I.bk).lt
  exact Nat.lt_trans (by decide) h
end
section
variable {X : Cx} {pins : List (Addr × Obj)} {σ : St} {H : Hp} {s : Shared} {a : Addr} {kvs : List (Key × V)} {k : Key} {u : Value} {A : Around} {E : Value → Shared → Prop}
end
/-! ### readings and rules -/
section
variable {X : Cx} {o i e value : Expr} {pos pos' tpos : Pos} {td ty tv : TE}
end
/-! ### displays -/
theorem dk_empty {P : Program} {w : World} {H : Hp} (h : Heap) (hb : sysModules < h.objs.size) : ObjOk P w H (h.push { cls := .type "dict", data := .dict #[] }) h.objs.size (.dK []) :=
  ⟨Nat.zero_le _, beq_eq_false_iff_ne.mpr (Ne.symm (Nat.ne_of_lt hb)), [], .nil, Heap.DictOf.new h⟩
/-- {}, to be a dict of the kind that is wanted -/
def tDNewK : TE := fun _ H Q => ∀ p, H p = none → Q (.ref p) (upd H p (.dK []))
section
variable {X : Cx} {pos : Pos}
theorem pe_dnewK : PE X (.Dict [] [] pos) tDNewK := fun pins s σ H Q I h =>
  wpAny_Dict_empty ⟨.ref s.heap.objs.size, _, I.laid (a := s.heap.objs.size) (o := .dK []) (t' := s.toks) (fun _ _ q => Heap.get?_push_of_some _ q) (Nat.le_refl _) (dk_empty s.heap I.big), rfl, h _ (I.hok.fresh (Nat.le_refl _))⟩
end
/-! ### methods -/
/-- a method call o.m(e) of a built-in, with one argument: what must be seen of the text -/
structure M1 (X : Cx) (o : Expr) (m : Str) (apos : Pos) (e : Expr) (cpos : Pos) : Prop where
  base : attributeBase o m X.env (eval o X.env) = eval o X.env
  few : ((backTo cpos (starEach [e] X.env)).all (fun x => !x.1) && (backToKw cpos (keywordEach [] X.env)).all (fun x => x.1.isSome)
    && decide (([e] : List Expr).length + ([] : List Keyword).length + (if ([] : List Keyword).isEmpty then 0 else 1) < 30)) = true
  line : (apos.endLine == cpos.line) = true
  trees : backTo cpos (starEach [e] X.env) = [(false, eval e X.env)]
structure M2 (X : Cx) (o : Expr) (m : Str) (apos : Pos) (e f : Expr) (cpos : Pos) : Prop where
  base : attributeBase o m X.env (eval o X.env) = eval o X.env
  few : ((backTo cpos (starEach [e, f] X.env)).all (fun x => !x.1) && (backToKw cpos (keywordEach [] X.env)).all (fun x => x.1.isSome)
    && decide (([e, f] : List Expr).length + ([] : List Keyword).length + (if ([] : List Keyword).isEmpty then 0 else 1) < 30)) = true
  line : (apos.endLine == cpos.line) = true
  trees : backTo cpos (starEach [e, f] X.env) = [(false, eval e X.env), (false, eval f X.env)]
section
variable {X : Cx} {pins : List (Addr × Obj)} {σ : St} {H : Hp} {s : Shared} {a : Addr} {y d : V} {u r : Value} {o : Option V} {A : Around} {E : Value → Shared → Prop}
end
section
variable {X : Cx} {o e f : Expr} {apos cpos : Pos} {td ty tx : TE}
end
/-! ### dict(d): a copy -/
section
variable {X : Cx} {pins : List (Addr × Obj)} {σ : St} {H : Hp} {s : Shared} {a : Addr} {kvs : List (Key × V)} {A : Around} {E : Value → Shared → Prop}
end
section
variable {X : Cx} {pins : List (Addr × Obj)} {σ : St} {H : Hp} {s : Shared} {a : Addr} {y : V} {u : Value} {A : Around} {E : Value → Shared → Prop}
end
end L2
namespace L2
open PySem PySem.Spec PyProof.Rows
section
variable {prog : Program} {w : World} {A : Around} {E : Value → Shared → Prop}
end
section
variable {X : Cx}
end
end L2
namespace L2
open PySem PySem.Spec PyProof.Rows
section
variable {X : Cx} {pins : List (Addr × Obj)} {σ : St} {H : Hp} {s : Shared} {h' : Heap}
/-- .. and one new object is laid -/
theorem Inv.turnedNew {t' : Nat} {ch : List Addr} {T : Addr} {ob : HO} (I : Inv X pins σ H s) (k : ∀ b o, b ∉ ch → s.heap.get? b = some o → h'.get? b = some o) (hf : ∀ b ∈ ch, FpOk X pins H b) (hT : s.heap.objs.size ≤ T)
    (new : ObjOk X.prog X.w (upd H T ob) h' T ob) : Inv X pins σ (upd H T ob) { s with heap := h', toks := t' } := by
  have hn : H T = none := I.hok.fresh hT
  have nit : ∀ b u, H b = some u → b ∉ ch := fun b u e z => by
    have q := (hf b z).1
    rw [q] at e; cases e
  refine I.step (g' := s.gens) (d' := s.drawn) (ch := ch) (fun b hb => ⟨(hf b hb).2.2.2.1, (hf b hb).2.1, (hf b hb).2.2.2.2.1, (hf b hb).2.2.2.2.2⟩) (fun b o _ _ hc e _ => k b o hc e) (fun b o _ _ hc e _ => ⟨o.slots, k b o hc e⟩)
    (fun b o _ e n => ?_) (fun b o hc e => ⟨o, k b o hc e⟩) (fun b xs e => ?_) (fun b o u e => ?_) (fun b _ ps e => ⟨#[], ?_⟩) (fun m hm => ?_) (fun b u e => ?_) I.bare
  · rw [upd_ne (Nat.ne_of_lt (Nat.lt_of_lt_of_le (Heap.lt_size e) hT))]; exact n
  · rw [upd_ne (ne_of_none e hn)]; exact e
  · rw [upd_ne (ne_of_none e hn)]; exact e
  · rw [upd_ne (ne_of_none e hn), e]; simp
  · obtain ⟨o, es, ep, ho, r⟩ := hm
    exact ⟨o, es, ep, k _ o (fun z => (hf _ z).2.1 rfl) ho, r⟩
  · by_cases hb : b = T
    · subst hb
      rw [upd_same] at e
      cases e
      exact new
    · rw [upd_ne hb] at e
      refine (I.hok b u e).stay (fun c v hc q => k c v ?_ q) (fun c q => by rw [upd_ne (ne_of_none q hn)]; exact q) fun c xs q => by rw [upd_ne (ne_of_none q hn)]; exact q
      rcases hc with z | z
      · rw [z]; exact nit b u e
      · exact nit c _ z
/-! ### locking a thing while a statement runs -/
end
section
variable {X : Cx}
/-! ### one iterator just laid -/
end
/-! ### range with a step -/
/-- range(i, j, c): small bounds, n items -/
def RgC (i j c : Int) (n : Nat) : Prop := c ≠ 0 ∧ c.natAbs < 1073741824 ∧ Builtin.Range.small i j c = true ∧ Builtin.Range.rangeSize i j c = n
theorem RgC.neg {i j : Int} (ha : -(2 ^ 62) ≤ i) (ha' : i < 2 ^ 62) (hb : -(2 ^ 62) ≤ j) (hb' : j < 2 ^ 62) : RgC i j (-1) (i - j).toNat :=
  ⟨by decide, by decide, PySem.W.small_down ha ha' hb hb', PySem.W.rangeSize_downNat i j⟩
section
variable {X : Cx} {tg : Expr}
end
/-! ### reversed(list) -/
section
variable {X : Cx} {tg : Expr}
end
/-! ### a str -/
/-! ### a dict's keys: any dict's entries -/
section
variable {prog : Program} {w : World} {A : Around} {E : Value → Shared → Prop} {s : Shared}
end
/-! ### a locked dict -/
section
variable {X : Cx} {pins : List (Addr × Obj)} {σ : St} {H : Hp} {s : Shared} {d : Addr} {o : Obj}
end
section
variable {P : Program} {w : World} {K : PySem.W.Frag} {tg : Expr} {d : Addr} {o : Obj} {es : Array DictEntry} {ep : Nat}
end
/-! ### for k in d, d.keys(), d.values(), d.items() -/
section
variable {X : Cx} {tg e : Expr} {td : TE} {apos cpos : Pos}
end
/-! ### enumerate(list) -/
/-- the list at a as it stands at each turn, each item in a new pair -/
def Ite (K : PySem.W.Frag) (a : Addr) : It :=
  ⟨fun i H => ∃ (xs : List V) (x : V), SqL K H a xs ∧ xs[i]? = some x, fun i H v H' => ∃ T x, v = .ref T ∧ H T = none ∧ H' = upd H T (.tup [.int (i : Nat), x]) ∧ ∀ xs, SqL K H a xs → xs[i]? = some x, fun i H => ∃ xs : List V, SqL K H a xs ∧ xs.length ≤ i⟩
theorem turn_enum {P : Program} {w : World} {K : PySem.W.Frag} {elts : List Expr} {kk : Nat} {tpos : Pos} (a e it : Addr) :
    Turn P w K (.Tuple elts kk tpos) (Ite K a) [e, it] e (fun i h => (∃ old, IsEnum h e it ((i : Nat) : Int) old) ∧ h.IsListIter it a i ∧ e ≠ it) where
  mem := by simp
  obj := fun i h st b hb => by
    obtain ⟨⟨old, he⟩, ⟨o, ho, hc, hd⟩, _⟩ := st
    have e' : b = e ∨ b = it := by simpa using hb
    rcases e' with z | z
    · rw [z]; exact ⟨_, he, fun v q => nomatch q⟩
    · rw [z]; exact ⟨o, ho, fun v q => by rw [hd] at q; cases q⟩
  keep := fun i h h' st k => let ⟨⟨old, he⟩, hi, hne⟩ := st; ⟨⟨old, k e (by simp) _ he⟩, hi.at fun o q => k it (by simp) o q, hne⟩
  item := by
    intro X hP hw hK hc i pins s σ H E I hf st hg
    subst hP hw hK
    obtain ⟨⟨old, he⟩, hit, hne⟩ := st
    obtain ⟨xs, x, hq, hx⟩ := hg
    obtain ⟨its, rv, p, hz⟩ := I.list hq
    obtain ⟨u, hu, ru⟩ := rv.get hx
    have hel : e < s.heap.objs.size := Heap.lt_size he
    have hil : it < s.heap.objs.size := by obtain ⟨_, q, _⟩ := hit; exact Heap.lt_size q
    refine wpAny_pyNext_enum_item he hit p.isList (x := u) (by simpa using hu) hne fun h' ho hit' hT hsz hk => ?_
    refine ⟨_, rfl, wpAny_letOwnedTupleGo_enum (s := { s with heap := h', toks := s.toks + 1 }) ho fun h'' he' sb => ?_⟩
    have hT2 : h''.get? s.heap.objs.size = some { cls := .type "tuple", data := .seq #[.int i s.toks, u] } := (sb.2 _ (Nat.ne_of_gt hel)).trans hT
    have new : ObjOk X.prog X.w (upd H s.heap.objs.size (.tup [.int (i : Nat), x])) h'' s.heap.objs.size (.tup [.int (i : Nat), x]) :=
      ⟨by show 2 ≤ sizeLine; decide, [.int i s.toks, u], .cons ⟨_, rfl⟩ (.cons ru .nil), ⟨_, hT2, rfl, _, rfl⟩⟩
    have I1 : Inv X pins σ (upd H s.heap.objs.size (.tup [.int (i : Nat), x])) { s with heap := h'', toks := s.toks + 1 } :=
      I.turnedNew (ch := [e, it]) (fun b ob hb q => (sb.2 b (fun z => hb (by simp [z]))).trans (hk b ob (fun z => hb (by simp [z])) (fun z => hb (by simp [z])) q)) hf (Nat.le_refl _) new
    refine ⟨.ref s.heap.objs.size, _, I1, rfl, ⟨_, x, rfl, I.hok.fresh (Nat.le_refl _), rfl, fun ys hy => by rw [I.list_inj hy hq]; exact hx⟩, ⟨⟨u, ?_⟩, hit'.at fun o q => (sb.2 it (Ne.symm hne)).trans q, hne⟩, fun b hb => ?_⟩
    · have e1 : ((i + 1 : Nat) : Int) = (i : Int) + 1 := by omega
      rw [e1]; exact he'
    · have hb' : b < s.heap.objs.size := by
        have e' : b = e ∨ b = it := by simpa using hb
        rcases e' with z | z
        · rw [z]; exact hel
        · rw [z]; exact hil
      rw [upd_ne (Nat.ne_of_lt hb')]
      exact (hf b hb).1
  done := by
    intro X hP hw hK hc i pins s σ H E I hf st hg
    subst hP hw hK
    obtain ⟨⟨old, he⟩, hit, hne⟩ := st
    obtain ⟨xs, hq, hx⟩ := hg
    obtain ⟨its, rv, p, hz⟩ := I.list hq
    obtain ⟨f0, f1, f2, f3, f4, f5⟩ := hf it (by simp)
    have hl := rv.length
    exact wpAny_pyNext_enum_end (I.ok.hd hc) he hit p.isList (by simp; omega) fun h' eb => ⟨rfl, I.turned (t' := s.toks) (fun b o hb q => eb b o hb q) f0 f1 f3 f4 f5⟩
  self := fun A i s Q E st h => let ⟨⟨_, he⟩, _⟩ := st; wpAny_pyIter_enum he h
def iEnum (K : PySem.W.Frag) (ta : TA) : TI := fun σ H R => ta σ H fun vs H1 => ∃ a xs, vs = [.ref a] ∧ SqL K H1 a xs ∧ R (Ite K a) H1
theorem pi_enum {X : Cx} {e : Expr} {ta : TA} {p pos tpos : Pos} {elts : List Expr} {kk : Nat} (hg : Gl X "enumerate") (hm : X.mg "enumerate" = none) (ha : PA X [e] ta) (hs : starEach [e] X.env = [(false, eval e X.env)] := by rfl) :
    PI X (.Tuple elts kk tpos) (.Call (.Name "enumerate" p) [e] [] pos) (iEnum X.K ta) := by
  intro pins s σ H R I h
  refine Call_ (ld_blt I hg hm boot_enumerate (PyProof.Rows.callWith_type1 (thn (ha pos pins s σ H _ I h) fun us s1 ⟨vs, H1, I1, r1, q1⟩ => ?_) hs rfl))
  obtain ⟨a, xs, ex, hq, q⟩ := q1
  subst ex
  cases r1 with
  | cons r rr =>
    cases rr
    cases r
    obtain ⟨its, rv, p', hz⟩ := I1.list hq
    refine call_enumerate_list p'.isList fun h' he hit hsz hk => wpAny_pyIter_enum he ?_
    have I2 : Inv X pins σ H1 { s1 with heap := h' } := I1.kept (t' := s1.toks) hk
    refine ⟨s1.heap.objs.size + 1, [s1.heap.objs.size + 1, s1.heap.objs.size], _, _, H1, rfl, I2, turn_enum a (s1.heap.objs.size + 1) s1.heap.objs.size, ⟨⟨.none, he⟩, hit, Nat.succ_ne_self _⟩, fun b hb => ?_, q⟩
    have e' : b = s1.heap.objs.size + 1 ∨ b = s1.heap.objs.size := by simpa using hb
    have hle : s1.heap.objs.size ≤ b := by
      rcases e' with z | z
      · rw [z]; exact Nat.le_add_right _ _
      · rw [z]; exact Nat.le_refl _
    exact I1.fpOk hle (I1.hok.fresh hle)
/-! ### zip(list, list) -/
theorem boot_zip5 : bootBuiltins "zip" = some (.type "zip") := by decide +kernel
end L2
section 
namespace Bits
open PySem PyProof.Rows
end Bits
end 
section 
namespace TL
open PySem PySem.Builtin PySem.Builtin.Str PySem.StrLaws
abbrev tl (x : Str) : List Nat := x.cps.toList
/-! ### the list functions -/
/-- S stands at the head of l -/
def pre (S l : List Nat) : Bool := l.take S.length == S
/-- what stands before the first S, and behind it -/
def par (S : List Nat) : List Nat → List Nat → Option (List Nat × List Nat)
  | _, [] => none
  | acc, c :: r => if pre S (c :: r) = true then some (acc, (c :: r).drop S.length) else par S (acc ++ [c]) r
/-! ### the model's split and partition are these -/
/-! ### computing spl and par -/
/-! ### digits -/
/-! ### words: x.split() -/
end TL
end 
namespace L2
open PySem PySem.Spec PyProof.Rows
section
variable {X : Cx} {pins : List (Addr × Obj)} {σ : St} {H : Hp} {s : Shared} {Q : VK}
end
section
variable {X : Cx}
/-! ### of a text alone -/
/-! ### of a text and a text -/
end
section
variable {X : Cx} {o e : Expr} {to te : TE}
end
end L2
namespace L2
open PySem PySem.Spec PyProof.Rows
section
variable {X : Cx}
end
/-! ### slices of a text -/
end L2
namespace Att
open PySem PySem.W PySem.Calls PyProof.Rows
/-! ### the script -/
theorem ints_of_wellAll {P : Params} {h : Heap} : ∀ (ns : List Int) (vs : List Value), WellAll P h vs (ns.map WData.int) → IntsAre vs ns := by
  intro ns
  induction ns with
  | nil =>
    intro vs w
    rw [List.map_nil] at w
    cases w
    exact .nil
  | cons n ns ih =>
    intro vs w
    rw [List.map_cons] at w
    cases w with
    | cons a b =>
      cases a
      exact .cons _ _ (ih _ b)
theorem script_of {l : OpenLaw} {n : Nat} (hn : l.most = some n) {P : Params} {h : Heap} {args : List WData} {vals : List Value}
    (hpre : l.row.toRowW.claim.pre args = true) (hwl : WellAll P h vals args) :
    ∃ a vs ns, vals = [Value.ref a] ∧ args = [WData.list (ns.map WData.int)] ∧ h.get? a = some { cls := .type "list", data := .seq vs.toArray } ∧ IntsAre vs ns ∧ ns.length ≤ n := by
  have hsh : WShape.hasAll [] args [.list .int] = true := (pre_splitW hpre).1
  have hc : l.pre.holds [] { args := args } = true := (pre_splitW hpre).2
  obtain ⟨d, r, rfl, h1, h2⟩ := hasAllW_cons hsh
  obtain rfl := hasAllW_nil h2
  obtain ⟨xs, rfl, h3⟩ := hasW_list h1
  obtain ⟨ns, rfl⟩ := items_int h3
  have hlen : ns.length ≤ n := by
    unfold OpenLaw.pre at hc
    have h4 : (WTm.not (.lt (.lit (.int (n : Int))) (.len (.arg 0)))).holds [] { args := [.list (ns.map .int)] } = true := by
      have h4 := (holds_andW hc).1
      rw [hn] at h4
      exact h4
    have h5 := condW_of h4 (w_not (w_lt w_lit (w_len_list (w_arg rfl))))
    rw [List.length_map] at h5
    refine Nat.le_of_not_lt fun q => ?_
    have q' : (n : Int) < ((ns.length : Nat) : Int) := by omega
    first
      | (rw [decide_eq_true q'] at h5; exact absurd h5 (by decide))
      | (simp at h5; omega)
  cases hwl with
  | cons w1 w2 =>
    cases w2
    cases w1 with
    | list ho hall => exact ⟨_, _, ns, rfl, rfl, ho, ints_of_wellAll ns _ hall, hlen⟩
theorem post_true (l : OpenLaw) (args : List WData) : l.row.toRowW.claim.post args (.bool true) args = true :=
  postW_of (r := l.row.toRowW) (X := (true == true))
    (show WShape.has [] (.bool true) .bool = true by first | rfl | decide | simp [WShape.has, WShape.arms, WShape.armsAll])
    (show (WTm.eq .res (.lit (.bool true))).value [] { args := args, res := some (.bool true), after := args } = some (.bool (true == true)) from w_eq_bool (w_res rfl) w_lit) rfl
/-! ### the attachment: holds_open's last premise (the goal 'hc' behind k_head) from a wpAny of the law's body -/
theorem attach {l : OpenLaw} {n : Nat} {q : Program} {loose : List Str} {XP : (Str → Option Value) → Heap → Prop} {YP : World → Heap → Prop} {d : DefRec} {x : Str}
    (hn : l.most = some n) (hdf : d.params.defaults = [])
    (hbind : ∀ pm cd doc v : Value, bindArgs (docDef d.name d.params d.body d.scope pm cd doc) ⟨[v], []⟩ = pure [(x, v)])
    (hx : d.scope.names.lookup x = some .local ∨ d.scope.names.lookup x = some .cell)
    (hk : d.scope.kind = .function) (hco : d.scope.isCoroutine = false) (hgen : d.scope.isGenerator = false)
    (body : ∀ (w : World) (s₀ s₁ s : Shared) (mg mb : Str → Option Value) (fa : Addr) (o : Obj) (pm cd doc : Value) (a : Addr) (vs : List Value) (ns : List Int),
      Ground q loose [] XP w s₀ mg mb s₁.heap → YP w s₁.heap →
      s₁.heap.get? fa = some o → o.data = .func (docDef d.name d.params d.body d.scope pm cd doc) → s₁.heap.CodeRec cd d.name → mg d.name = some (.ref fa) →
      s₁.heap.get? a = some { cls := .type "list", data := .seq vs.toArray } → IntsAre vs ns → ns.length ≤ n →
      s.gens = #[] → s.os = s₁.os →
      Fr s₁.heap s₁.heap.objs.size s.heap (bindL (envOfC d.name d.scope s₁.heap.objs.size fa cd).kindOf [(x, .ref a)] fun _ => none) →
      Cl s₁.heap.objs.size (cellsFrom (s₁.heap.objs.size + 1) d.scope.names []) s.heap (bindC (envOfC d.name d.scope s₁.heap.objs.size fa cd).kindOf [(x, .ref a)] fun _ => none) →
      wpAny (model l.prog w) (callerA.deeper (envOfC d.name d.scope s₁.heap.objs.size fa cd)) (execs d.body (envOfC d.name d.scope s₁.heap.objs.size fa cd))
        (fun f s' => f = .ret (.bool true) ∧ OldK s₁.heap s'.heap ∧ s'.os = s₁.os ∧ AllBare s'.gens) (fun _ _ => False) s) :
    WalkO q loose XP YP l.row.toRowW d [] (fun f vs => PySem.call f vs) := by
  intro w s₀ s₁ mg mb G Y fa o pm cd doc dV kV ho hd hcd hD hmg hg args vals as hpre hlay hrd hwl hlo
  obtain rfl : dV = .none := Dflts.none hD hdf
  obtain rfl : kV = .none := Dflts.noKw hD
  obtain ⟨a, vs, ns, rfl, rfl, hobj, hints, hlen⟩ := script_of hn hpre hwl
  refine enter_call ?_
  refine call_cells_ret (o := o) (by rw [depth_caller]; decide) ho (fd_plain hd) G.T.nolimit hcd (hbind pm cd doc (.ref a)) (fun y hy => ?_) (fun h₁ tk F X => ?_) hco hgen hk
  · obtain rfl : y = (x, Value.ref a) := List.mem_singleton.mp hy
    rcases hx with e | e
    · exact .inl e
    · exact .inr ⟨e, cellsFrom_some _ _ _ (.inl e)⟩
  · refine wpAny_mono (body w s₀ s₁ { s₁ with heap := h₁, toks := tk } mg mb fa o pm cd doc a vs ns G Y ho (fd_plain hd) hcd hmg hobj hints hlen hg rfl F X) (fun f s' hq => ?_) (fun _ _ hq => hq)
    obtain ⟨rfl, h2, h3, h4⟩ := hq
    exact ⟨.inl ⟨.bool true, .bool true, [], rfl, fun _ => rfl, .bool true, post_true l _, fun _ => ⟨List.Pairwise.nil, fun _ hm => (nomatch hm)⟩⟩, h2, h3, h4⟩
/-- the same from a codeAny of the CALL (for a layer whose function contracts speak of calls) -/
theorem attach_call {l : OpenLaw} {n : Nat} {q : Program} {loose : List Str} {XP : (Str → Option Value) → Heap → Prop} {YP : World → Heap → Prop} {d : DefRec}
    (hn : l.most = some n) (hdf : d.params.defaults = [])
    (call : ∀ (w : World) (s₀ s₁ : Shared) (mg mb : Str → Option Value) (fa : Addr) (o : Obj) (pm cd doc : Value) (a : Addr) (vs : List Value) (ns : List Int),
      Ground q loose [] XP w s₀ mg mb s₁.heap → YP w s₁.heap →
      s₁.heap.get? fa = some o → o.data = .func (docDef d.name d.params d.body d.scope pm cd doc) → s₁.heap.CodeRec cd d.name → mg d.name = some (.ref fa) →
      s₁.heap.get? a = some { cls := .type "list", data := .seq vs.toArray } → IntsAre vs ns → ns.length ≤ n → s₁.gens = #[] →
      codeAny (model l.prog w) callerA (.call (.ref fa) ⟨[.ref a], []⟩) (fun r s' => r = .ok (.ret (.bool true)) ∧ OldK s₁.heap s'.heap ∧ s'.os = s₁.os ∧ AllBare s'.gens) s₁) :
    WalkO q loose XP YP l.row.toRowW d [] (fun f vs => PySem.call f vs) := by
  intro w s₀ s₁ mg mb G Y fa o pm cd doc dV kV ho hd hcd hD hmg hg args vals as hpre hlay hrd hwl hlo
  obtain rfl : dV = .none := Dflts.none hD hdf
  obtain rfl : kV = .none := Dflts.noKw hD
  obtain ⟨a, vs, ns, rfl, rfl, hobj, hints, hlen⟩ := script_of hn hpre hwl
  refine enter_call (codeAny_mono (call w s₀ s₁ mg mb fa o pm cd doc a vs ns G Y ho (fd_plain hd) hcd hmg hobj hints hlen hg) fun r s' hq => ?_)
  obtain ⟨rfl, h2, h3, h4⟩ := hq
  exact ⟨.inl ⟨.bool true, .bool true, [], rfl, fun _ => rfl, .bool true, post_true l _, fun _ => ⟨List.Pairwise.nil, fun _ hm => (nomatch hm)⟩⟩, h2, h3, h4⟩
/-! ### rules over ANY heap (no ledger) from facts about the written part K: the library's own take a ledger (News) for what they write -/
section
variable {prog : Program} {w : World} {A : Around} {E : Value → Shared → Prop} {s : Shared} {K : Frag}
/-- a def of the module, or a method (qual 'C.m'), entered: the frame is the next address; cells behind it -/
theorem call_fn {R : Result → Shared → Prop} {name qual : Str} {params : Arguments} {body : List Stmt} {scope : Scope} {dV kV doc pm cdv ct oc : Value} {an od : Option Addr} {osl : Array (Option Value)} {f : Addr} {args : Args} {binds : List (Str × Value)}
    (X : K.In s.heap) (hlim : s.heap.NoLimit) (ho : K.lookup f = some ⟨oc, od, .func (fnOf name qual params body scope dV kV doc pm an cdv ct), osl⟩) (hcd : codeIn K cdv qual = true) (hroom : A.depth < recursionLimit)
    (hbind : BindsTo s (fnOf name qual params body scope dV kV doc pm an cdv ct) args binds)
    (hkind : (binds.all fun y => scope.names.lookup y.1 == some .local || scope.names.lookup y.1 == some .cell) = true)
    (h : ∀ s₁, InCallC s s.heap.objs.size (bindL (envOfC qual scope s.heap.objs.size f cdv).kindOf binds fun _ => none) (cellsFrom (s.heap.objs.size + 1) scope.names [])
        (bindC (envOfC qual scope s.heap.objs.size f cdv).kindOf binds fun _ => none) s₁ →
      wpAny (model prog w) (A.deeper (envOfC qual scope s.heap.objs.size f cdv)) (execs body (envOfC qual scope s.heap.objs.size f cdv))
        (fun fl s' => R (.ok (.ret (match fl with | .ret v => v | _ => .none))) s')
        (fun e s' => wpAny (model prog w) (A.deeper (envOfC qual scope s.heap.objs.size f cdv)) (leaving (envOfC qual scope s.heap.objs.size f cdv) e) (fun _ s'' => R (.error e) s'') (fun e' s'' => R (.error e') s'') s') s₁)
    (hco : scope.isCoroutine = false) (hgen : scope.isGenerator = false) (hk : scope.kind = .function) : codeAny (model prog w) A (.call (.ref f) args) R s := by
  refine codeAny_call_function hroom (X _ _ ho) rfl hco hgen rfl (codeRec_of X hcd) (hbind _ _ _ _ ?_)
  refine wpAny_newFunctionEnv_cells hk (kindsX hkind _) fun env he s₁ x => ?_
  subst he
  exact ⟨hlim.keeps x.toInCall.keep, codeAny_func (h s₁ x)⟩
/-! the whole heap as the ledger: makes every rule that writes through a ledger a rule over any heap -/
end
end Att
namespace L2
open PySem PySem.Spec PyProof.Rows
theorem vals_ints : ∀ {vs : List Value} {ns : List Int}, IntsAre vs ns → Vals (ns.map V.int) vs
  | _, _, .nil => .nil
  | _, _, .cons n t h => .cons ⟨t, rfl⟩ (vals_ints h)
end L2
namespace L2
open PySem PySem.Spec PyProof.Rows
end L2
/- THE LAST THEOREM (shape; LID, My.* are yours):
   My.Adr: a structure of the addresses that your layer names (classes, functions); My.Txt K t: a structure (Prop) of the equations over K;
   My.txt_mk : {K} {implicit addresses ..} (e1 : nsIn K mainGlobals "law" = some (some (.ref f))) (e2 : K.lookup f = some ⟨oc, od, .func (fnOf "law" "law" params body scope dV kV doc pm an cdv ct), sl⟩) (e3 : codeIn K cdv "law" = true) .. : ∃ t, My.Txt K t
(the tactic k_is has no namespace: write k_is) -/
/-! SHORT WORDS over the layer: a def of the text, its body, what a loop and a test want. -/
namespace L2
open PySem PySem.Spec PyProof.Rows
/-! ### the text by places -/
/-- the j-th statement of a class's body -/
def inClass (s : Stmt) (j : Nat) : Stmt := match s with
  | .ClassDef _ _ _ body _ _ _ _ _ _ _ => body.getD j (.Pass ⟨0, 0, 0, 0⟩)
  | _ => .Pass ⟨0, 0, 0, 0⟩
def defArgs (s : Stmt) : Arguments := match s with
  | .FunctionDef _ a _ _ _ _ _ _ _ _ => a
  | _ => { posonlyargs := [], args := [], vararg := none, kwonlyargs := [], kw_defaults := [], kwarg := none, defaults := [] }
def defBody (s : Stmt) : List Stmt := match s with
  | .FunctionDef _ _ b _ _ _ _ _ _ _ => b
  | _ => []
def defScope (s : Stmt) : Scope := match s with
  | .FunctionDef _ _ _ _ _ _ sc _ _ _ => sc
  | _ => { kind := .function, names := [], isGenerator := false, isCoroutine := false }
/-! ### no exception leaves a def -/
abbrev CX0 : CXT := fun _ _ _ _ _ _ => False
abbrev E0 : XK := fun _ _ _ => False
theorem pass0 {X : Cx} : Passes CX0 X E0 := fun _ _ _ _ _ _ _ h => h.elim
/-! ### a def (or method) of the text as it stands behind the top -/
structure Fun (K : PySem.W.Frag) (x qual : Str) (st : Stmt) (f : Addr) (fd : FuncData) : Prop where
  ex : ∃ (oc : Value) (od : Option Addr) (kV doc pm : Value) (an : Option Addr) (cdv ct : Value) (osl : Array (Option Value)),
    fd = PySem.W.fnOf x qual (defArgs st) (defBody st) (defScope st) .none kV doc pm an cdv ct ∧ K.lookup f = some ⟨oc, od, .func fd, osl⟩ ∧ PySem.W.codeIn K cdv qual = true
  kp : PySem.W.keepIn K (.ref f) = true
section
variable {P : Program} {w : World} {K : PySem.W.Frag} {mg : Str → Option Value} {base : Heap}
/-- THE RULE for a def: its body as a term of rules, and the reading of that term -/
theorem Fun.ok {x qual : Str} {st : Stmt} {f : Addr} {fd : FuncData} {N ps : List Str} {k : Nat} {sp : Sp} (F : Fun K x qual st f fd) (S : FnScope N ps (defScope st)) (len : ∀ vs H Q E, sp vs H Q E → vs.length = ps.length)
    (hbody : ∀ (cdv : Value) (A : Around) (outer : List Env) (s : Shared) (H : Hp) (vs : List V) (Q : VK) (E : XK), Room k (A.deeper (envOfC qual (defScope st) s.heap.objs.size f cdv)) → sp vs H Q E →
      ∃ t, PSs (cxOf CX0 P w K mg base N qual (defScope st) f cdv A outer s H E).nox (defBody st) t ∧ t { nx := fun _ H' => Q .non H', rt := Q } (start N vs) H) : FnOk P w K mg base CX0 (k + 1) f fd ps sp := by
  obtain ⟨oc, od, kV, doc, pm, an, cdv, ct, osl, rfl, lk, hcd⟩ := F.ex
  refine fn_of lk hcd S len fun A outer s H vs Q E hr hsp => ?_
  obtain ⟨t, h, q⟩ := hbody cdv A outer s H vs Q E hr hsp
  exact ⟨t, h.nox, q⟩
/-- how its arguments bind (no defaults): h is «fun _ _ _ _ _ _ us hl => match us, hl with | [_, _], _ => rfl», one _ a parameter -/
theorem Fun.binds {x qual : Str} {st : Stmt} {f : Addr} {fd : FuncData} {ps : List Str} (F : Fun K x qual st f fd)
    (h : ∀ (kV doc pm : Value) (an : Option Addr) (cdv ct : Value) (us : List Value), us.length = ps.length → bindArgs (PySem.W.fnOf x qual (defArgs st) (defBody st) (defScope st) .none kV doc pm an cdv ct) ⟨us, []⟩ = pure (ps.zip us)) : Binds K fd ps [] := by
  obtain ⟨oc, od, kV, doc, pm, an, cdv, ct, osl, rfl, lk, hcd⟩ := F.ex
  exact .all (h kV doc pm an cdv ct)
theorem fun_mk {x qual : Str} {st : Stmt} {f : Addr} {oc : Value} {od an : Option Addr} {osl : Array (Option Value)} {kV doc pm cdv ct : Value} (l : K.lookup f = some ⟨oc, od, .func (PySem.W.fnOf x qual (defArgs st) (defBody st) (defScope st) .none kV doc pm an cdv ct), osl⟩)
    (c : PySem.W.codeIn K cdv qual = true) (k : PySem.W.keepIn K (.ref f) = true) : Fun K x qual st f (PySem.W.fnOf x qual (defArgs st) (defBody st) (defScope st) .none kV doc pm an cdv ct) := ⟨⟨oc, od, kV, doc, pm, an, cdv, ct, osl, rfl, l, c⟩, k⟩
end
/-! ### expressions in short: the name that stands in the i-th slot -/
section
variable {X : Cx}
theorem pv (i : Nat) {x : Str} {pos : Pos} (hN : X.N[i]? = some x := by rfl) (hv : Vis X.env.scope x := by first | exact Or.inl rfl | exact Or.inr (Or.inl rfl) | exact Or.inr (Or.inr rfl)) (hd : (x == ("__debug__" : Str)) = false := by decide)
    (hcd : (x == ("__classdict__" : Str)) = false := by decide) : PE X (.Name x pos) (tVar i) := pe_var hN hv hd hcd
end
/-! ### tests -/
theorem iteF {A B : Prop} (h : B) : if false = true then A else B := by
  rw [if_neg Bool.false_ne_true]
  exact h
theorem iteT {A B : Prop} (h : A) : if true = true then A else B := by
  rw [if_pos rfl]
  exact h
/-! ### heaps -/
/-- all that was tracked is as it was -/
def Same (H H' : Hp) : Prop := ∀ b o, H b = some o → H' b = some o
theorem Same.refl (H : Hp) : Same H H := fun _ _ h => h
theorem Same.trans {H H1 H2 : Hp} (a : Same H H1) (b : Same H1 H2) : Same H H2 := fun c o h => b c o (a c o h)
theorem Same.free {H H' : Hp} (e : Same H H') {l : Addr} (h : H' l = Option.none) : H l = Option.none := by
  cases q : H l with
  | none => rfl
  | some o =>
    rw [e l o q] at h
    cases h
theorem Same.seq {K : PySem.W.Frag} {H H' : Hp} {a : Addr} {xs : List V} (e : Same H H') (h : SqL K H a xs) : SqL K H' a xs := by
  rcases h with (h | ⟨o, h⟩) | h
  · exact .inl (.inl (e _ _ h))
  · exact .inl (.inr ⟨o, e _ _ h⟩)
  · exact .inr h
/-! ### a dict's pairs: keys that differ -/
section
variable {κ : Type} [DecidableEq κ]
end
/-! ### lists -/
/-- a new instance and its __init__ leave all that was tracked as it was -/
theorem Same.made {H H1 : Hp} {x dx C : Addr} (nx : H x = Option.none) (nd : H dx = Option.none) (k : ∀ b o, (upd (upd H dx (.own x)) x (.ins C dx [])) b = some o → b ≠ x → H1 b = some o) : Same H H1 := fun b o e =>
  k b o (by rw [upd_ne (ne_of_none e nx), upd_ne (ne_of_none e nd)]; exact e) (ne_of_none e nx)
end L2
end
section
set_option linter.all false
/-! Pure data, pure states, pure words for each construct. No heap here. -/
namespace U
open PySem
inductive D where
  | non | bl (b : Bool) | int (i : Int) | str (x : Str) | lst (xs : List D) | tup (xs : List D) | obj (c : Nat) (xs : List D) | frz (xs : List D) | dct | ex (n : Nat)
def D.flat : D → Bool
  | .non | .bl _ | .int _ | .str _ => true
  | _ => false
/-- a name's value: a thing that others may hold too, or a list that this name alone holds -/
inductive SV where
  | sh (d : D) | ol (xs : List D) | oo (c : Nat) (ds : List D) | on (ds : List D)
abbrev DS := List (Option SV)
def SV.d : SV → D
  | .sh d => d
  | .ol xs => .lst xs
  | .oo c ds => .obj c ds
  | .on ds => .lst ds
def SV.dem : SV → SV := fun s => .sh s.d
/-- the names in B no longer hold alone -/
def dem (B : List Nat) (δ : DS) : DS := δ.mapIdx fun i o => if i ∈ B then o.map SV.dem else o
/-- what a def hands back -/
abbrev UR := SV
inductive SR where
  | nx (δ : DS) | rt (r : SV) | bk (δ : DS) | ct (δ : DS)
abbrev UEf := DS → Option D
abbrev ULf := DS → Option (List D)
abbrev UTf := DS → Option Bool
abbrev US := Nat → DS → Option SR
def uVar (i : Nat) : UEf := fun δ => match δ[i]? with
  | some (some s) => some s.d
  | _ => none
def uC (d : D) : UEf := fun _ => some d
def uOp (op : D → D → Option D) (f g : UEf) : UEf := fun δ => match f δ, g δ with
  | some x, some y => op x y
  | _, _ => none
def uUn (op : D → Option D) (f : UEf) : UEf := fun δ => match f δ with
  | some x => op x
  | none => none
def uList (f : ULf) : UEf := fun δ => (f δ).map .lst
def uAs : UEf → ULf := fun f δ => match f δ with | some (.lst xs) => some xs | _ => none
/-- several, from the left -/
def uNil : ULf := fun _ => some []
def uCons (f : UEf) (g : ULf) : ULf := fun δ => match f δ, g δ with
  | some x, some xs => some (x :: xs)
  | _, _ => none
def uTup (f : ULf) : UEf := fun δ => (f δ).map .tup
/-- tests -/
def uB (f : UEf) : UTf := fun δ => match f δ with | some (.bl b) => some b | _ => none
def uOr (f g : UTf) : UTf := fun δ => match f δ with | some true => some true | some false => g δ | none => none
def uNot (f : UTf) : UTf := fun δ => (f δ).map (!·)
def uIf (c : UTf) (f g : UEf) : UEf := fun δ => match c δ with | some true => f δ | some false => g δ | none => none
/-- statements -/
def uNext : US := fun _ δ => some (.nx δ)
def uSeq (f g : US) : US := fun n δ => match f n δ with
  | some (.nx δ') => g n δ'
  | r => r
def uIfS (c : UTf) (f g : US) : US := fun n δ => match c δ with
  | some true => f n δ
  | some false => g n δ
  | none => none
def put (B : List Nat) (δ : DS) (i : Nat) (d : D) : DS := (if d.flat then δ else dem B δ).set i (some (.sh d))
def uSet (i : Nat) (f : UEf) (B : List Nat) : US := fun _ δ => (f δ).map fun d => .nx (put B δ i d)
def flats (xs : List D) : Bool := xs.all D.flat
def putL (B : List Nat) (δ : DS) (i : Nat) (xs : List D) : DS := (if flats xs then δ else dem B δ).set i (some (.ol xs))
def uSetL (i : Nat) (f : ULf) (B : List Nat) : US := fun _ δ => (f δ).map fun xs => .nx (putL B δ i xs)
def uRet (f : UEf) : US := fun _ δ => (f δ).map fun d => .rt (.sh d)
def uRetL (f : ULf) : US := fun _ δ => (f δ).map fun xs => .rt (.ol xs)
def uRetV (i : Nat) : US := fun _ δ => match δ[i]? with | some (some s) => some (.rt s) | _ => none
def uDrop (f : UEf) : US := fun _ δ => (f δ).map fun _ => .nx δ
def uNever : US := fun _ _ => none
/-- loops -/
def uWh (c : UTf) (f : US) (n : Nat) : Nat → DS → Option SR
  | 0, _ => none
  | m + 1, δ => match c δ with
    | some true => match f n δ with
      | some (.nx δ') => uWh c f n m δ'
      | some (.ct δ') => uWh c f n m δ'
      | some (.bk δ') => some (.nx δ')
      | some (.rt r) => some (.rt r)
      | none => none
    | some false => some (.nx δ)
    | none => none
def uWhile (c : UTf) (f : US) : US := fun n δ => uWh c f n n δ
abbrev UG := D → DS → Option DS
def uFs (g : UG) (f : US) (n : Nat) : List D → DS → Option SR
  | [], δ => some (.nx δ)
  | x :: xs, δ => match g x δ with
    | none => none
    | some δ1 => match f n δ1 with
      | some (.nx δ') => uFs g f n xs δ'
      | some (.ct δ') => uFs g f n xs δ'
      | some (.bk δ') => some (.nx δ')
      | some (.rt r) => some (.rt r)
      | none => none
/-- a target: the thing walked is not held alone, so its items are no name's own -/
def gVar (i : Nat) : UG := fun x δ => some (δ.set i (some (.sh x)))
def gVars : List Nat → List D → DS → Option DS
  | [], [], δ => some δ
  | i :: is, x :: xs, δ => gVars is xs (δ.set i (some (.sh x)))
  | _, _, _ => none
def gTups (is : List Nat) : UG := fun x δ => match x with
  | .tup xs => gVars is xs δ
  | _ => none
def uFor (src : ULf) (B : List Nat) (g : UG) (f : US) : US := fun n δ => match src δ with
  | some xs => uFs g f n xs (dem B δ)
  | none => none
/-- comprehensions: own names wiped, the item stored, the test asked -/
def uLcs (g : UG) (c : UTf) (e : UEf) (δ : DS) : List D → Option (List D)
  | [] => some []
  | x :: xs => match g x δ with
    | none => none
    | some δ1 => match c δ1 with
      | some true => match e δ1, uLcs g c e δ xs with
        | some y, some ys => some (y :: ys)
        | _, _ => none
      | some false => uLcs g c e δ xs
      | none => none
def wipeD (δ : DS) : List Nat → DS
  | [] => δ
  | v :: vs => (wipeD δ vs).set v none
def uLc (src : ULf) (B : List Nat) (g : UG) (c : UTf) (e : UEf) (own : List Nat) : ULf := fun δ => match src δ with
  | some xs => uLcs g c e (wipeD (dem B δ) own) xs
  | none => none
def uYes : UTf := fun _ => some true
/-- a call by what the def is worth -/
def uCall (F : List D → Option SV) (f : ULf) : UEf := fun δ => match f δ with
  | some ds => (F ds).map SV.d
  | none => none
def uCallL (F : List D → Option SV) (f : ULf) : ULf := fun δ => match f δ with
  | some ds => match F ds with | some (.ol xs) => some xs | _ => none
  | none => none
/-- what stands in the names at the entry -/
def startD (n : Nat) (ds : List D) : DS := ds.map (fun d => some (.sh d)) ++ List.replicate (n - ds.length) none
def runD (f : US) (fuel N : Nat) (ds : List D) : Option SV := match f fuel (startD N ds) with
  | some (.rt r) => some r
  | some (.nx _) => some (.sh .non)
  | _ => none
end U
namespace U
open PySem
/-! ### subscripts, slices -/
def ixD (n : Nat) (i : Int) : Option Nat := if 0 ≤ i then (if i < n then some i.toNat else none) else if -(n : Int) ≤ i then some (i + n).toNat else none
def atD {α : Type} (xs : List α) (i : Int) : Option α := (ixD xs.length i).bind fun j => xs[j]?
def dIx : D → D → Option D
  | .lst xs, .int i => atD xs i
  | .frz xs, .int i => atD xs i
  | .tup xs, .int i => atD xs i
  | _, _ => none
/-- a slice's bound as a place among n (d where it is left out) -/
def sBd (n d : Nat) : Option Int → Nat
  | none => d
  | some i => if i < 0 then (i + n).toNat else min i.toNat n
def cutD {α : Type} (xs : List α) (lo hi : Option Int) : List α := (xs.drop (sBd xs.length 0 lo)).take (sBd xs.length xs.length hi - sBd xs.length 0 lo)
abbrev UOf := DS → Option (Option Int)
def oNone : UOf := fun _ => some none
def oSome (f : UEf) : UOf := fun δ => match f δ with | some (.int i) => some (some i) | _ => none
def uCut (f : UEf) (lo hi : UOf) : ULf := fun δ => match f δ, lo δ, hi δ with
  | some (.lst xs), some l, some h => some (cutD xs l h)
  | _, _, _ => none
def uRev (f : UEf) : ULf := fun δ => match f δ with | some (.lst xs) => some xs.reverse | _ => none
/-! ### lists put together -/
def uCat (f g : UEf) : ULf := fun δ => match f δ, g δ with
  | some (.lst xs), some (.lst ys) => some (xs ++ ys)
  | _, _ => none
def uRep (f g : UEf) : ULf := fun δ => match f δ, g δ with
  | some (.lst xs), some (.int k) => if decide (k ≤ 100000) && decide (-100000 ≤ k) && decide (xs.length ≤ 10) then some (List.replicate k.toNat xs).flatten else none
  | _, _ => none
/-! ### == -/
mutual
def eqD : D → D → Bool
  | .non, .non => true
  | .bl a, .bl b => a == b
  | .bl a, .int j => (if a then 1 else 0) == j
  | .int i, .bl b => i == (if b then 1 else 0)
  | .int i, .int j => i == j
  | .str x, .str y => x == y
  | .lst xs, .lst ys => eqDs xs ys
  | .tup xs, .tup ys => eqDs xs ys
  | _, _ => false
def eqDs : List D → List D → Bool
  | [], [] => true
  | x :: xs, y :: ys => eqD x y && eqDs xs ys
  | _, _ => false
end
def strNice (x : Str) : Bool := decide (x = "go") || decide (x = "back")
/-- data of a small depth, no objects -/
def nice : Nat → D → Bool
  | _, .non | _, .bl _ | _, .int _ => true
  | _, .str x => strNice x
  | n + 1, .lst xs => xs.attach.all fun ⟨x, _⟩ => nice n x
  | n + 1, .tup xs => xs.attach.all fun ⟨x, _⟩ => nice n x
  | _, _ => false
def dEq (x y : D) : Option D := if nice 8 x && nice 8 y then some (.bl (eqD x y)) else none
def dNe (x y : D) : Option D := if nice 8 x && nice 8 y then some (.bl (!eqD x y)) else none
/-! ### in -/
def dIn : D → D → Option D
  | x, .lst ys => if x.flat && flats ys then some (.bl (ys.any fun y => eqD y x)) else none
  | x, .tup ys => if x.flat && flats ys then some (.bl (ys.any fun y => eqD y x)) else none
  | _, _ => none
/-! ### built-ins -/
def uFn (op : List D → Option D) (f : ULf) : UEf := fun δ => match f δ with | some ds => op ds | none => none
def uFnL (op : List D → Option (List D)) (f : ULf) : ULf := fun δ => match f δ with | some ds => op ds | none => none
def bLen : List D → Option D
  | [.lst xs] => some (.int xs.length)
  | [.frz xs] => some (.int xs.length)
  | [.tup xs] => some (.int xs.length)
  | _ => none
def bAbs : List D → Option D
  | [.int i] => some (.int (if i < 0 then -i else i))
  | _ => none
def intsD : List D → Option (List Int)
  | [] => some []
  | .int i :: xs => (intsD xs).map (i :: ·)
  | _ => none
def boolsD : List D → Option (List Bool)
  | [] => some []
  | .bl i :: xs => (boolsD xs).map (i :: ·)
  | _ => none
def maxI : List Int → Int
  | [] => 0
  | [x] => x
  | x :: xs => max x (maxI xs)
def bMax : List D → Option D
  | [.lst xs] => match intsD xs with | some (n :: ns) => some (.int (maxI (n :: ns))) | _ => none
  | _ => none
def bAll : List D → Option D
  | [.lst xs] => (boolsD xs).map fun bs => .bl (bs.all id)
  | _ => none
def bList : List D → Option (List D)
  | [.lst xs] => some xs
  | [.tup xs] => some xs
  | _ => none
/-! ### statements that change a list -/
def own1 (δ : DS) (i : Nat) : Option (List D) := match δ[i]? with | some (some (.ol xs)) => some xs | _ => none
def uApp (i : Nat) (f : UEf) (B : List Nat) : US := fun _ δ => match f δ with
  | none => none
  | some d => match own1 (if d.flat then δ else dem B δ) i with
    | some xs => if xs.length < 1000000 then some (.nx ((if d.flat then δ else dem B δ).set i (some (.ol (xs ++ [d]))))) else none
    | none => none
def uPutIx (i : Nat) (g f : UEf) (B : List Nat) : US := fun _ δ => match f δ, g δ with
  | some d, some (.int k) => match own1 (if d.flat then δ else dem B δ) i with
    | some xs => match ixD xs.length k with
      | some j => some (.nx ((if d.flat then δ else dem B δ).set i (some (.ol (xs.set j d)))))
      | none => none
    | none => none
  | _, _ => none
/-! ### several names at once -/
inductive UX where
  | e (f : UEf) (B : List Nat)
  | l (f : ULf) (B : List Nat)
def UX.run : UX → DS → Option SV
  | .e f _, δ => (f δ).map .sh
  | .l f _, δ => (f δ).map .ol
def UX.B : UX → List Nat
  | .e _ B => B
  | .l _ B => B
/-- fields of an object that a name holds alone: flat ones, or lists of its own -/
def imm : D → Bool
  | .tup ds => flats ds
  | d => d.flat
def imms (xs : List D) : Bool := xs.all imm
def fldI : D → Bool
  | .lst xs => imms xs
  | d => d.flat
def putO (B : List Nat) (δ : DS) (i : Nat) (c : Nat) (ds : List D) : DS := (if ds.all fldI then δ else dem B δ).set i (some (.oo c ds))
def putS (B : List Nat) (δ : DS) (i : Nat) : SV → DS
  | .sh d => put B δ i d
  | .ol xs => putL B δ i xs
  | .oo c ds => putO B δ i c ds
  | .on ds => put B δ i (.lst ds)
def uPar2 (i j : Nat) (x y : UX) : US := fun _ δ => match x.run δ, y.run δ with
  | some a, some b => some (.nx (putS y.B (putS x.B δ i a) j b))
  | _, _ => none
end U
end
section
set_option Elab.async false
set_option linter.all false
set_option maxRecDepth 100000
/-! The pure words are kept by the program: the state's relation. -/
namespace U
open PySem PySem.Spec PyProof.Rows L2
/-- what is fixed for the whole text: the written part, the classes by number, their fields, the tables of code -/
structure GG where
  K : PySem.W.Frag
  cls : Nat → Addr
  flds : Nat → List Str
  tabs : List Addr
  ltabs : List (Addr × Str) := []
  exs : Nat → Hp → Addr → Prop := fun _ _ _ => False
  exX : ∀ (n : Nat) (H H' : Hp) (a : Addr), (∀ b o, H b = some (.frz o (.own b)) → H' b = some (.frz o (.own b))) → exs n H a → exs n H' a := by intro _ _ _ _ _ h; exact h
/-- a code object, known -/
abbrev CdE (c : Addr) (o : Obj) : HO := .frz o (.own c)
def CdOk (H : Hp) (q : Str) (c : Addr) : Prop := ∃ o vs t, H c = some (CdE c o) ∧ o.data = .fields vs ∧ vs[1]? = some (.str q t)
/-- the table of a code that makes functions: all codes in it are known -/
abbrev LTb (q : Str) (ps : Array Value) : HO := .tb (Option.some q) ps
def LamT (H : Hp) (q : Str) (ps : Array Value) : Prop := TriplesOk ps.toList ∧ ∀ pos cv, codeAmong pos ps.toList = some cv → ∃ c, cv = .ref c ∧ CdOk H q c
/-- all that was tracked is as it was; tables of code may have grown -/
def Keep (H H' : Hp) : Prop := ∀ b o, H b = some o → H' b = some o ∨ (∃ ps ps' : Array Value, o = .tbl ps ∧ H' b = some (.tbl ps') ∧ (TriplesOk ps.toList → TriplesOk ps'.toList)) ∨ ∃ (q : Str) (ps ps' : Array Value), o = LTb q ps ∧ H' b = some (LTb q ps') ∧ (LamT H q ps → LamT H' q ps')
theorem Keep.refl (H : Hp) : Keep H H := fun _ _ h => .inl h
theorem CdOk.keep0 {H H' : Hp} {q : Str} {c : Addr} (h : CdOk H q c) (k : ∀ b o, H b = some (.frz o (.own b)) → H' b = some (.frz o (.own b))) : CdOk H' q c := let ⟨o, vs, t, e, r⟩ := h; ⟨o, vs, t, k _ _ e, r⟩
theorem LamT.keep0 {H H' : Hp} {q : Str} {ps : Array Value} (h : LamT H q ps) (k : ∀ b o, H b = some (.frz o (.own b)) → H' b = some (.frz o (.own b))) : LamT H' q ps := ⟨h.1, fun pos cv e => let ⟨c, e1, e2⟩ := h.2 pos cv e; ⟨c, e1, e2.keep0 k⟩⟩
theorem Keep.at {H H' : Hp} (k : Keep H H') {b : Addr} {o : HO} (h : H b = some o) (n : ∀ ps, o ≠ .tbl ps) (n2 : ∀ q ps, o ≠ LTb q ps := by intro _ _ e; cases e) : H' b = some o := by
  rcases k b o h with h1 | ⟨ps, _, e, _⟩ | ⟨q, ps, _, e, _⟩
  · exact h1
  · exact absurd e (n ps)
  · exact absurd e (n2 q ps)
theorem Keep.cd {H H' : Hp} (k : Keep H H') (b : Addr) (o : Obj) (h : H b = some (.frz o (.own b))) : H' b = some (.frz o (.own b)) := k.at h (fun _ e => by cases e)
theorem Keep.trans {H H1 H2 : Hp} (a : Keep H H1) (b : Keep H1 H2) : Keep H H2 := fun c o h => by
  rcases a c o h with h1 | ⟨ps, ps', rfl, h1, t1⟩ | ⟨q, ps, ps', rfl, h1, t1⟩
  · rcases b c o h1 with h2 | h2 | ⟨q, qs, qs', e, h2, t2⟩
    · exact .inl h2
    · exact .inr (.inl h2)
    · exact .inr (.inr ⟨q, qs, qs', e, h2, fun t => t2 (t.keep0 fun x u hx => a.cd x u hx)⟩)
  · rcases b c _ h1 with h2 | ⟨qs, qs', e, h2, t2⟩ | ⟨_, qs, qs', e, h2, t2⟩
    · exact .inr (.inl ⟨ps, ps', rfl, h2, t1⟩)
    · cases e; exact .inr (.inl ⟨ps, qs', rfl, h2, fun t => t2 (t1 t)⟩)
    · cases e
  · rcases b c _ h1 with h2 | ⟨qs, qs', e, h2, t2⟩ | ⟨_, qs, qs', e, h2, t2⟩
    · exact .inr (.inr ⟨q, ps, ps', rfl, h2, fun t => (t1 t).keep0 fun x u hx => b.cd x u hx⟩)
    · cases e
    · cases e; exact .inr (.inr ⟨q, ps, qs', rfl, h2, fun t => t2 (t1 t)⟩)
theorem Keep.lst {H H' : Hp} (k : Keep H H') {b : Addr} {xs : List V} (h : H b = some (.lst xs)) : H' b = some (.lst xs) := k.at h fun _ e => by cases e
theorem Keep.rdl {H H' : Hp} (k : Keep H H') {b : Addr} {xs : List V} (h : Rd H b (.lst xs)) : Rd H' b (.lst xs) := by
  rcases h with h | ⟨o, h⟩
  · exact .inl (k.at h fun _ e => by cases e)
  · exact .inr ⟨o, k.at h fun _ e => by cases e⟩
theorem Keep.free {H H' : Hp} (k : Keep H H') {l : Addr} (h : H' l = Option.none) : H l = Option.none := by
  cases q : H l with
  | none => rfl
  | some o =>
    rcases k l o q with e | ⟨_, _, _, e, _⟩ | ⟨_, _, _, _, e, _⟩ <;> rw [e] at h <;> cases h
theorem Keep.new {H : Hp} {p : Addr} {o : HO} (h : H p = none) : Keep H (upd H p o) := fun b u e => .inl (by rw [upd_ne (ne_of_none e h)]; exact e)
theorem Keep.wr {H H' : Hp} (k : Keep H H') {p : Addr} {xs ys : List V} (hp : H' p = some (.lst xs)) (hn : H p = none) : Keep H (upd H' p (.lst ys)) := fun b o hb => by
  have hbp : b ≠ p := fun z => by rw [z, hn] at hb; cases hb
  have hc : ∀ x u, H' x = some (.frz u (.own x)) → upd H' p (.lst ys) x = some (.frz u (.own x)) := fun x u hx => by rw [upd_ne (fun z => by rw [z, hp] at hx; cases hx)]; exact hx
  rcases k b o hb with h | ⟨ps, ps', e, h, t⟩ | ⟨q, ps, ps', e, h, t⟩
  · exact .inl (by rw [upd_ne hbp]; exact h)
  · exact .inr (.inl ⟨ps, ps', e, by rw [upd_ne hbp]; exact h, t⟩)
  · exact .inr (.inr ⟨q, ps, ps', e, by rw [upd_ne hbp]; exact h, fun l => (t l).keep0 hc⟩)
theorem Rd.some {H : Hp} {a : Addr} {u : HO} (h : Rd H a u) : H a ≠ none := by
  rcases h with h | ⟨o, h⟩ <;> rw [h] <;> simp
structure TabOk (G : GG) (H : Hp) : Prop where
  g : ∀ P ∈ G.tabs, ∃ ps : Array Value, H P = some (.tbl ps) ∧ TriplesOk ps.toList
  l : ∀ p ∈ G.ltabs, ∃ ps : Array Value, H p.1 = some (LTb p.2 ps) ∧ LamT H p.2 ps
instance {G : GG} {H : Hp} : CoeFun (TabOk G H) fun _ => ∀ P ∈ G.tabs, ∃ ps : Array Value, H P = some (.tbl ps) ∧ TriplesOk ps.toList := ⟨fun t => t.g⟩
theorem TabOk.keep {G : GG} {H H' : Hp} (t : TabOk G H) (k : Keep H H') : TabOk G H' where
  g := fun P hP => by
    obtain ⟨ps, h, o⟩ := t.g P hP
    rcases k P _ h with h1 | ⟨qs, qs', e, h1, t1⟩ | ⟨_, qs, qs', e, h1, t1⟩
    · exact ⟨ps, h1, o⟩
    · cases e; exact ⟨qs', h1, t1 o⟩
    · cases e
  l := fun p hp => by
    obtain ⟨ps, h, o⟩ := t.l p hp
    rcases k p.1 _ h with h1 | ⟨qs, qs', e, h1, t1⟩ | ⟨_, qs, qs', e, h1, t1⟩
    · exact ⟨ps, h1, o.keep0 fun x u hx => k.cd x u hx⟩
    · cases e
    · cases e; exact ⟨qs', h1, t1 o⟩
theorem TabOk.sub {G : GG} {H H' : Hp} (t : TabOk G H) (k : ∀ b g ps, H b = some (.tb g ps) → H' b = some (.tb g ps)) (k2 : ∀ b o u, H b = some (.frz o u) → H' b = some (.frz o u)) : TabOk G H' where
  g := fun P hP => let ⟨ps, h, o⟩ := t.g P hP; ⟨ps, k _ _ _ h, o⟩
  l := fun p hp => let ⟨ps, h, o⟩ := t.l p hp; ⟨ps, k _ _ _ h, o.keep0 fun b u e => k2 _ _ _ e⟩
theorem Keep.into {H1 H H' : Hp} (k : Keep H1 H) (a : ∀ b, H1 b ≠ none → H' b = H b) (c : ∀ b o, H b = some (.frz o (.own b)) → H' b = some (.frz o (.own b))) : Keep H1 H' := fun b o e => by
  rw [a b (by rw [e]; simp)]
  rcases k b o e with h | h | ⟨q, ps, ps', e1, e2, t⟩
  · exact .inl h
  · exact .inr (.inl h)
  · exact .inr (.inr ⟨q, ps, ps', e1, e2, fun l => (t l).keep0 c⟩)
theorem Keep.wrA {H H' : Hp} (k : Keep H H') {p : Addr} {o1 o2 : HO} (hp : H' p = some o1) (hc : ∀ u, o1 ≠ .frz u (.own p)) (hn : H p = none) : Keep H (upd H' p o2) := k.into (fun b e => upd_ne (fun z => e (by rw [z]; exact hn))) fun b o e => by
  rw [upd_ne (fun z => by rw [z, hp] at e; injection e with e; exact hc _ (by rw [← z] at *; exact e))]; exact e
theorem Keep.from {H1 H2 H' : Hp} (k : Keep H1 H') (a : ∀ b o, H2 b = some o → H' b = some o ∨ H1 b = some o) (c : ∀ b o, H2 b = some (.frz o (.own b)) → H1 b = some (.frz o (.own b))) : Keep H2 H' := fun b o e => by
  rcases a b o e with h | h
  · exact .inl h
  · rcases k b o h with h | h | ⟨q, ps, ps', e1, e2, t⟩
    · exact .inl h
    · exact .inr (.inl h)
    · exact .inr (.inr ⟨q, ps, ps', e1, e2, fun l => t (l.keep0 c)⟩)
mutual
/-- the value v stands for d; none of its lists and objects lies in S -/
inductive Rep (G : GG) (H : Hp) (S : Addr → Prop) : V → D → Prop
  | non : Rep G H S .non .non
  | bl (b : Bool) : Rep G H S (.bl b) (.bl b)
  | int (i : Int) : Rep G H S (.int i) (.int i)
  | str (x : Str) : Rep G H S (.str x) (.str x)
  | lst {a : Addr} {xs : List V} {ds : List D} : H a = some (.lst xs) → ¬ S a → Reps G H S xs ds → Rep G H S (.ref a) (.lst ds)
  | frz {a : Addr} {o : Obj} {xs : List V} {ds : List D} : H a = some (.frz o (.lst xs)) → Reps G H S xs ds → Rep G H S (.ref a) (.frz ds)
  | tup {a : Addr} {xs : List V} {ds : List D} : H a = some (.tup xs) → Reps G H S xs ds → Rep G H S (.ref a) (.tup ds)
  | obj {a dx : Addr} {c : Nat} {vs : List V} {ds : List D} : H a = some (.ins (G.cls c) dx ((G.flds c).zip vs)) → vs.length = (G.flds c).length → ¬ S a → Reps G H S vs ds → Rep G H S (.ref a) (.obj c ds)
  | dct {a : Addr} : H a = some (.dK []) → Rep G H S (.ref a) .dct
  | ex {a : Addr} {n : Nat} {o : Obj} : H a = some (.frz o (.own a)) → G.exs n H a → Rep G H S (.ref a) (.ex n)
inductive Reps (G : GG) (H : Hp) (S : Addr → Prop) : List V → List D → Prop
  | nil : Reps G H S [] []
  | cons {v : V} {vs : List V} {d : D} {ds : List D} : Rep G H S v d → Reps G H S vs ds → Reps G H S (v :: vs) (d :: ds)
end
section
variable {G : GG} {H H' : Hp} {S S' : Addr → Prop}
mutual
theorem Rep.keep (k : Keep H H') : ∀ {v : V} {d : D}, Rep G H S v d → Rep G H' S v d
  | _, _, .non => .non
  | _, _, .bl b => .bl b
  | _, _, .int i => .int i
  | _, _, .str x => .str x
  | _, _, .lst h n r => .lst (k.lst h) n (Reps.keep k r)
  | _, _, .frz h r => .frz (k.at h fun _ e => by cases e) (Reps.keep k r)
  | _, _, .tup h r => .tup (k.at h fun _ e => by cases e) (Reps.keep k r)
  | _, _, .obj h l n r => .obj (k.at h fun _ e => by cases e) l n (Reps.keep k r)
  | _, _, .dct h => .dct (k.at h fun _ e => by cases e)
  | _, _, .ex h e => .ex (k.cd _ _ h) (G.exX _ _ _ _ (fun b o hb => k.cd b o hb) e)
theorem Reps.keep (k : Keep H H') : ∀ {vs : List V} {ds : List D}, Reps G H S vs ds → Reps G H' S vs ds
  | _, _, .nil => .nil
  | _, _, .cons h t => .cons (Rep.keep k h) (Reps.keep k t)
end
mutual
/-- S' may be larger where nothing new is tracked -/
theorem Rep.mono (k : ∀ a, S' a → H a ≠ none → S a) : ∀ {v : V} {d : D}, Rep G H S v d → Rep G H S' v d
  | _, _, .non => .non
  | _, _, .bl b => .bl b
  | _, _, .int i => .int i
  | _, _, .str x => .str x
  | _, _, .lst h n r => .lst h (fun z => n (k _ z (by rw [h]; simp))) (Reps.mono k r)
  | _, _, .frz h r => .frz h (Reps.mono k r)
  | _, _, .tup h r => .tup h (Reps.mono k r)
  | _, _, .obj h l n r => .obj h l (fun z => n (k _ z (by rw [h]; simp))) (Reps.mono k r)
  | _, _, .dct h => .dct h
  | _, _, .ex h e => .ex h e
theorem Reps.mono (k : ∀ a, S' a → H a ≠ none → S a) : ∀ {vs : List V} {ds : List D}, Reps G H S vs ds → Reps G H S' vs ds
  | _, _, .nil => .nil
  | _, _, .cons h t => .cons (Rep.mono k h) (Reps.mono k t)
end
mutual
/-- a list of S is written -/
theorem Rep.wr {p : Addr} {ys zs : List V} (hS : S p) (hp : H p = some (.lst ys)) : ∀ {v : V} {d : D}, Rep G H S v d → Rep G (upd H p (.lst zs)) S v d
  | _, _, .non => .non
  | _, _, .bl b => .bl b
  | _, _, .int i => .int i
  | _, _, .str x => .str x
  | _, _, .lst (a := a) h n r => .lst (by rw [upd_ne (show a ≠ p from fun e => n (e ▸ hS))]; exact h) n (Reps.wr hS hp r)
  | _, _, .frz (a := a) h r => .frz (by rw [upd_ne (ne_of h hp (by intro e; cases e))]; exact h) (Reps.wr hS hp r)
  | _, _, .tup (a := a) h r => .tup (by rw [upd_ne (ne_of h hp (by intro e; cases e))]; exact h) (Reps.wr hS hp r)
  | _, _, .obj (a := a) h l n r => .obj (by rw [upd_ne (show a ≠ p from fun e => n (e ▸ hS))]; exact h) l n (Reps.wr hS hp r)
  | _, _, .dct h => .dct (by rw [upd_ne (ne_of h hp (by intro e; cases e))]; exact h)
  | _, _, .ex h e => .ex (by rw [upd_ne (ne_of h hp (by intro e; cases e))]; exact h) (G.exX _ _ _ _ (fun b o hb => by rw [upd_ne (ne_of hb hp (by intro e; cases e))]; exact hb) e)
theorem Reps.wr {p : Addr} {ys zs : List V} (hS : S p) (hp : H p = some (.lst ys)) : ∀ {vs : List V} {ds : List D}, Reps G H S vs ds → Reps G (upd H p (.lst zs)) S vs ds
  | _, _, .nil => .nil
  | _, _, .cons h t => .cons (Rep.wr hS hp h) (Reps.wr hS hp t)
end
theorem Rep.flat {v : V} {d : D} (r : Rep G H S v d) (f : d.flat = true) (H' : Hp) (S' : Addr → Prop) : Rep G H' S' v d := by
  cases r with
  | non => exact .non
  | bl b => exact .bl b
  | int i => exact .int i
  | str x => exact .str x
  | lst _ _ _ => cases f
  | frz _ _ => cases f
  | tup _ _ => cases f
  | obj _ _ _ _ => cases f
  | dct _ => cases f
  | ex _ _ => cases f
theorem Reps.flt : ∀ {vs : List V} {ds : List D}, Reps G H S vs ds → flats ds = true → ∀ (H' : Hp) (S' : Addr → Prop), Reps G H' S' vs ds
  | _, _, .nil, _, _, _ => .nil
  | _, _, .cons h t, f, H', S' => by
    have f' := Bool.and_eq_true_iff.mp (show (D.flat _ && U.flats _) = true from f)
    exact .cons (h.flat f'.1 H' S') (Reps.flt t f'.2 H' S')
theorem Reps.length : ∀ {vs : List V} {ds : List D}, Reps G H S vs ds → vs.length = ds.length
  | _, _, .nil => rfl
  | _, _, .cons _ t => by simp [Reps.length t]
theorem Reps.get : ∀ {vs : List V} {ds : List D} {i : Nat} {d : D}, Reps G H S vs ds → ds[i]? = some d → ∃ v, vs[i]? = some v ∧ Rep G H S v d
  | _, _, _, _, .nil, e => by simp at e
  | _, _, 0, _, .cons h _, e => by simp at e; subst e; exact ⟨_, rfl, h⟩
  | _, _, i + 1, d, .cons _ t, e => by
    obtain ⟨v, h1, h2⟩ := Reps.get (i := i) (d := d) t (by simpa using e)
    exact ⟨v, by simpa using h1, h2⟩
theorem Reps.get' : ∀ {vs : List V} {ds : List D} {i : Nat} {v : V}, Reps G H S vs ds → vs[i]? = some v → ∃ d, ds[i]? = some d ∧ Rep G H S v d
  | _, _, _, _, .nil, e => by simp at e
  | _, _, 0, _, .cons h _, e => by simp at e; subst e; exact ⟨_, rfl, h⟩
  | _, _, i + 1, d, .cons _ t, e => by
    obtain ⟨v, h1, h2⟩ := Reps.get' (i := i) t (by simpa using e)
    exact ⟨v, by simpa using h1, h2⟩
theorem Reps.append : ∀ {vs us : List V} {ds es : List D}, Reps G H S vs ds → Reps G H S us es → Reps G H S (vs ++ us) (ds ++ es)
  | _, _, _, _, .nil, s => s
  | _, _, _, _, .cons r t, s => .cons r (Reps.append t s)
theorem Reps.snoc {vs : List V} {v : V} {ds : List D} {d : D} (a : Reps G H S vs ds) (b : Rep G H S v d) : Reps G H S (vs ++ [v]) (ds ++ [d]) := a.append (.cons b .nil)
theorem Reps.set : ∀ {vs : List V} {ds : List D} {v : V} {d : D} (i : Nat), Reps G H S vs ds → Rep G H S v d → Reps G H S (vs.set i v) (ds.set i d)
  | _, _, _, _, _, .nil, _ => .nil
  | _, _, _, _, 0, .cons _ t, r => .cons r t
  | _, _, _, _, i + 1, .cons q t, r => .cons q (Reps.set i t r)
theorem Reps.take : ∀ {vs : List V} {ds : List D} (n : Nat), Reps G H S vs ds → Reps G H S (vs.take n) (ds.take n)
  | _, _, 0, _ => .nil
  | _, _, _ + 1, .nil => .nil
  | _, _, n + 1, .cons r t => .cons r (Reps.take n t)
theorem Reps.drop : ∀ {vs : List V} {ds : List D} (n : Nat), Reps G H S vs ds → Reps G H S (vs.drop n) (ds.drop n)
  | _, _, 0, r => r
  | _, _, _ + 1, .nil => .nil
  | _, _, n + 1, .cons _ t => Reps.drop n t
theorem Reps.ints : ∀ (ns : List Int), Reps G H S (ns.map V.int) (ns.map D.int)
  | [] => .nil
  | n :: ns => .cons (.int n) (Reps.ints ns)
theorem Reps.ints' : ∀ {vs : List V} (ns : List Int), Reps G H S vs (ns.map D.int) → vs = ns.map V.int
  | _, [], .nil => rfl
  | _, n :: ns, .cons (.int _) t => by rw [Reps.ints' ns t]; rfl
end
/-! ### the state -/
def Av (S0 : Addr → Prop) (own : Nat → Addr → Prop) : Addr → Prop := fun a => S0 a ∨ ∃ i, own i a
def AvB (S0 : Addr → Prop) (own : Nat → Addr → Prop) (B : List Nat) : Addr → Prop := fun a => S0 a ∨ ∃ i, i ∉ B ∧ own i a
/-- a field of an object that a name holds alone: flat, or a list of the object's own -/
inductive FldOk (G : GG) (H : Hp) (S O : Addr → Prop) : V → D → Prop
  | fl {v : V} {d : D} : d.flat = true → Rep G H S v d → FldOk G H S O v d
  | ls {l : Addr} {us : List V} {ds : List D} : O l → H l = some (.lst us) → Reps G H S us ds → FldOk G H S O (.ref l) (.lst ds)
def FldsOk (G : GG) (H : Hp) (S O : Addr → Prop) (vs : List V) (ds : List D) : Prop := vs.length = ds.length ∧ ∀ (j : Nat) v d, vs[j]? = some v → ds[j]? = some d → FldOk G H S O v d
def OneRef (vs : List V) : Prop := ∀ (j k : Nat) (l : Addr), vs[j]? = some (V.ref l) → vs[k]? = some (V.ref l) → j = k
def ValOk (G : GG) (H : Hp) (S0 : Addr → Prop) (own : Nat → Addr → Prop) (o : Option (Option V)) (i : Nat) : SV → Prop
  | .sh d => ∃ v, o = some (some v) ∧ Rep G H (Av S0 own) v d
  | .ol ds => ∃ a xs, o = some (some (.ref a)) ∧ (∀ b, own i b ↔ b = a) ∧ H a = some (.lst xs) ∧ Reps G H (Av S0 own) xs ds
  | .oo c ds => ∃ a dx vs, o = some (some (.ref a)) ∧ own i a ∧ H a = some (.ins (G.cls c) dx ((G.flds c).zip vs)) ∧ vs.length = (G.flds c).length ∧ FldsOk G H (Av S0 own) (own i) vs ds ∧ OneRef vs
  | .on ds => ∃ a vs, o = some (some (.ref a)) ∧ own i a ∧ H a = some (.lst vs) ∧ FldsOk G H (Av S0 own) (own i) vs ds ∧ OneRef vs
def PinOk (G : GG) (H : Hp) (S : Addr → Prop) (P : List (V × D)) : Prop := ∀ p ∈ P, Rep G H S p.1 p.2
/-- what is held alone: a list, or an object with a list -/
def OwnO (H : Hp) (a : Addr) : Prop := (∃ xs, H a = some (.lst xs)) ∨ ∃ C dx fs, H a = some (.ins C dx fs) ∧ ∃ x l, (x, V.ref l) ∈ fs
structure OK (G : GG) (He H : Hp) (S0 : Addr → Prop) (P : List (V × D)) (own : Nat → Addr → Prop) (σ : L2.St) (δ : DS) : Prop where
  len : σ.length = δ.length
  kp : Keep He H
  tab : TabOk G He
  s0 : ∀ a, S0 a → H a ≠ none
  ns : ∀ i a, own i a → ¬ S0 a
  val : ∀ i s, δ[i]? = some (some s) → ValOk G H S0 own σ[i]? i s
  ow : ∀ i a, own i a → He a = none ∧ OwnO H a
  inj : ∀ i j a, own i a → own j a → i = j
  pin : PinOk G H (Av S0 own) P
theorem OwnO.some {H : Hp} {a : Addr} (h : OwnO H a) : H a ≠ none := by
  rcases h with ⟨xs, h⟩ | ⟨C, dx, fs, h, _⟩ <;> rw [h] <;> simp
theorem OwnO.keep {H H' : Hp} {a : Addr} (h : OwnO H a) (k : Keep H H') : OwnO H' a := by
  rcases h with ⟨xs, h⟩ | ⟨C, dx, fs, h, q⟩
  · exact .inl ⟨xs, k.lst h⟩
  · exact .inr ⟨C, dx, fs, k.at h (fun _ e => by cases e), q⟩
section
variable {G : GG} {He H H' : Hp} {S0 : Addr → Prop} {P : List (V × D)} {own : Nat → Addr → Prop} {σ : L2.St} {δ : DS} {S S' O O' : Addr → Prop}
theorem FldsOk.imp {vs : List V} {ds : List D} (f : ∀ v d, FldOk G H S O v d → FldOk G H' S' O' v d) (h : FldsOk G H S O vs ds) : FldsOk G H' S' O' vs ds := ⟨h.1, fun j v d a b => f v d (h.2 j v d a b)⟩
theorem Rep.imm {v : V} {d : D} (r : Rep G H S v d) (h : imm d = true) : Rep G H S' v d := by
  cases r with
  | tup hh rr => exact .tup hh (rr.flt h _ _)
  | non => exact .non
  | bl b => exact .bl b
  | int i => exact .int i
  | str x => exact .str x
  | lst _ _ _ => cases h
  | frz _ _ => cases h
  | obj _ _ _ _ => cases h
  | dct _ => cases h
  | ex _ _ => cases h
theorem Reps.imms : ∀ {vs : List V} {ds : List D}, Reps G H S vs ds → imms ds = true → Reps G H S' vs ds
  | _, _, .nil, _ => .nil
  | _, _, .cons h t, f => by
    have f' := Bool.and_eq_true_iff.mp (show (U.imm _ && U.imms _) = true from f)
    exact .cons (h.imm f'.1) (Reps.imms t f'.2)
theorem FldsOk.fldI {vs : List V} {ds : List D} (h : FldsOk G H S O vs ds) (f : ds.all U.fldI = true) : FldsOk G H S' O vs ds := ⟨h.1, fun j v d a b => by
  have f' := List.all_eq_true.mp f d (List.mem_of_getElem? b)
  have g := h.2 j v d a b
  cases g with
  | fl a r => exact .fl a (r.flat a _ _)
  | ls o e r => exact .ls o e (r.imms f')⟩
theorem FldsOk.keep (k : Keep H H') {vs : List V} {ds : List D} (h : FldsOk G H S O vs ds) : FldsOk G H' S O vs ds := h.imp fun v d f => by
  cases f with
  | fl a r => exact .fl a (r.keep k)
  | ls o e r => exact .ls o (k.lst e) (r.keep k)
theorem FldsOk.mono (m : ∀ a, S' a → H a ≠ none → S a) (m2 : ∀ a, O a → O' a) {vs : List V} {ds : List D} (h : FldsOk G H S O vs ds) : FldsOk G H S' O' vs ds := h.imp fun v d f => by
  cases f with
  | fl a r => exact .fl a (r.mono m)
  | ls o e r => exact .ls (m2 _ o) e (r.mono m)
theorem Reps.of : ∀ {vs : List V} {ds : List D}, vs.length = ds.length → (∀ (j : Nat) v d, vs[j]? = some v → ds[j]? = some d → Rep G H S v d) → Reps G H S vs ds
  | [], [], _, _ => .nil
  | v :: vs, d :: ds, hl, h => .cons (h 0 v d rfl rfl) (Reps.of (by simpa using hl) fun j v d a b => h (j + 1) v d (by simpa using a) (by simpa using b))
/-- seen as a thing that others may hold too -/
theorem FldsOk.reps {vs : List V} {ds : List D} (m : ∀ a, S' a → S a) (n : ∀ a, O a → ¬ S' a) (h : FldsOk G H S O vs ds) : Reps G H S' vs ds := Reps.of h.1 fun j v d a b => by
  have g := h.2 j v d a b
  cases g with
  | fl a r => exact r.mono fun b z _ => m b z
  | ls o e r => exact .lst e (n _ o) (r.mono fun b z _ => m b z)
theorem ValOk.imp {S0' : Addr → Prop} {own' : Nat → Addr → Prop} {σ' : L2.St} {i : Nat} {s : SV} (k : Keep H H') (ho : σ'[i]? = σ[i]?) (hi : ∀ a, own' i a ↔ own i a) (hS : ∀ a, Av S0' own' a → H a ≠ none → Av S0 own a) (h : ValOk G H S0 own σ[i]? i s) : ValOk G H' S0' own' σ'[i]? i s := by
  rw [ho]
  cases s with
  | sh d => obtain ⟨v, h1, h2⟩ := h; exact ⟨v, h1, (h2.mono hS).keep k⟩
  | ol ds =>
    obtain ⟨a, xs, h1, h2, h3, h4⟩ := h
    exact ⟨a, xs, h1, fun b => (hi b).trans (h2 b), k.lst h3, (h4.mono hS).keep k⟩
  | oo c ds =>
    obtain ⟨a, dx, vs, h1, h2, h3, h4, h5, h6⟩ := h
    exact ⟨a, dx, vs, h1, (hi a).mpr h2, k.at h3 (fun _ e => by cases e), h4, (h5.mono hS fun a z => (hi a).mpr z).keep k, h6⟩
  | on ds =>
    obtain ⟨a, vs, h1, h2, h3, h5, h6⟩ := h
    exact ⟨a, vs, h1, (hi a).mpr h2, k.lst h3, (h5.mono hS fun a z => (hi a).mpr z).keep k, h6⟩
theorem OK.keep (ok : OK G He H S0 P own σ δ) (k : Keep H H') : OK G He H' S0 P own σ δ where
  len := ok.len
  kp := ok.kp.trans k
  tab := ok.tab
  s0 := fun a z q => ok.s0 a z (k.free q)
  ns := ok.ns
  val := fun i s e => (ok.val i s e).imp k rfl (fun _ => Iff.rfl) fun _ z _ => z
  ow := fun i a e => let ⟨h1, h2⟩ := ok.ow i a e; ⟨h1, h2.keep k⟩
  inj := ok.inj
  pin := fun p hp => (ok.pin p hp).keep k
/-- a name's value -/
theorem OK.var (ok : OK G He H S0 P own σ δ) {i : Nat} {s : SV} (e : δ[i]? = some (some s)) : ∃ v, σ[i]? = some (some v) ∧ Rep G H (AvB S0 own [i]) v s.d := by
  have h := ok.val i s e
  have m : ∀ a, AvB S0 own [i] a → Av S0 own a := fun a z => z.imp id fun ⟨j, _, q⟩ => ⟨j, q⟩
  have n : ∀ a, own i a → ¬ AvB S0 own [i] a := by
    rintro a z (y | ⟨j, hj, q⟩)
    · exact ok.ns _ _ z y
    · exact hj (by rw [ok.inj j i a q z]; exact List.mem_singleton.mpr rfl)
  cases s with
  | sh d =>
    obtain ⟨v, h1, h2⟩ := h
    exact ⟨v, h1, h2.mono fun a z _ => m a z⟩
  | ol ds =>
    obtain ⟨a, xs, h1, h2, h3, h4⟩ := h
    exact ⟨_, h1, .lst h3 (n a ((h2 a).mpr rfl)) (h4.mono fun a z _ => m a z)⟩
  | oo c ds =>
    obtain ⟨a, dx, vs, h1, h2, h3, h4, h5, h6⟩ := h
    exact ⟨_, h1, .obj h3 h4 (n a h2) (h5.reps m n)⟩
  | on ds =>
    obtain ⟨a, vs, h1, h2, h3, h5, h6⟩ := h
    exact ⟨_, h1, .lst h3 (n a h2) (h5.reps m n)⟩
theorem dem_get (B : List Nat) (δ : DS) (i : Nat) : (dem B δ)[i]? = (δ[i]?).map fun o => if i ∈ B then o.map SV.dem else o := by
  unfold dem; rw [List.getElem?_mapIdx]
theorem dem_length (B : List Nat) (δ : DS) : (dem B δ).length = δ.length := by unfold dem; rw [List.length_mapIdx]
def ownB (own : Nat → Addr → Prop) (B : List Nat) : Nat → Addr → Prop := fun i a => i ∉ B ∧ own i a
theorem ownB_some {own : Nat → Addr → Prop} {B : List Nat} {i : Nat} {a : Addr} (h : ownB own B i a) : i ∉ B ∧ own i a := h
theorem av_ownB {own : Nat → Addr → Prop} {B : List Nat} {a : Addr} (h : Av S0 (ownB own B) a) : AvB S0 own B a := h.imp id fun ⟨i, e⟩ => ⟨i, ownB_some e⟩
theorem av_ownB' {own : Nat → Addr → Prop} {B : List Nat} {a : Addr} (h : Av S0 (ownB own B) a) : Av S0 own a := h.imp id fun ⟨i, e⟩ => ⟨i, (ownB_some e).2⟩
theorem ownB_iff {own : Nat → Addr → Prop} {B : List Nat} {i : Nat} (h : i ∉ B) (a : Addr) : ownB own B i a ↔ own i a := ⟨fun z => z.2, fun z => ⟨h, z⟩⟩
theorem OK.dem (ok : OK G He H S0 P own σ δ) (B : List Nat) : OK G He H S0 P (ownB own B) σ (dem B δ) where
  len := by rw [dem_length]; exact ok.len
  kp := ok.kp
  tab := ok.tab
  s0 := ok.s0
  ns := fun i a e => ok.ns i a (ownB_some e).2
  val := fun i s e => by
    rw [dem_get] at e
    obtain ⟨o, ho, e⟩ := Option.map_eq_some_iff.mp e
    by_cases hb : i ∈ B
    · rw [if_pos hb] at e
      cases o with
      | none => cases e
      | some t =>
      obtain rfl : SV.dem t = s := Option.some.inj e
      obtain ⟨v, h1, h2⟩ := ok.var ho
      refine ⟨v, h1, h2.mono fun a z _ => ?_⟩
      rcases z with z | ⟨j, q⟩
      · exact .inl z
      · obtain ⟨q1, q2⟩ := ownB_some q
        exact .inr ⟨j, fun m => q1 (by rw [List.mem_singleton.mp m]; exact hb), q2⟩
    · rw [if_neg hb] at e
      subst e
      exact (ok.val i s ho).imp (Keep.refl H) rfl (ownB_iff hb) fun _ z _ => av_ownB' z
  ow := fun i a e => ok.ow i a (ownB_some e).2
  inj := fun i j a e1 e2 => ok.inj i j a (ownB_some e1).2 (ownB_some e2).2
  pin := fun p hp => (ok.pin p hp).mono fun a z _ => av_ownB' z
theorem not_one {i j : Nat} (h : ¬ i = j) : j ∉ [i] := fun m => h (List.mem_singleton.mp m).symm
/-- a name is stored -/
theorem OK.set (ok : OK G He H S0 P own σ δ) {v : V} {d : D} (i : Nat) (r : Rep G H (Av S0 (ownB own [i])) v d) : OK G He H S0 P (ownB own [i]) (σ.set i (some v)) (δ.set i (some (.sh d))) where
  len := by rw [List.length_set, List.length_set]; exact ok.len
  kp := ok.kp
  tab := ok.tab
  s0 := ok.s0
  ns := fun i a e => ok.ns i a (ownB_some e).2
  val := fun j s e => by
    by_cases hj : i = j
    · subst hj
      rw [List.getElem?_set] at e
      rw [if_pos rfl] at e
      split at e
      · rename_i hl
        cases e
        exact ⟨v, by rw [List.getElem?_set_self (by rw [ok.len]; exact hl)], r⟩
      · cases e
    · rw [List.getElem?_set_ne hj] at e
      exact (ok.val j s e).imp (Keep.refl H) (List.getElem?_set_ne hj) (ownB_iff (not_one hj)) fun _ z _ => av_ownB' z
  ow := fun i a e => ok.ow i a (ownB_some e).2
  inj := fun i j a e1 e2 => ok.inj i j a (ownB_some e1).2 (ownB_some e2).2
  pin := fun p hp => (ok.pin p hp).mono fun a z _ => av_ownB' z
/-- a name is forgotten -/
theorem OK.wipe1 (ok : OK G He H S0 P own σ δ) (i : Nat) (o : Option V) : OK G He H S0 P (ownB own [i]) (σ.set i o) (δ.set i none) where
  len := by rw [List.length_set, List.length_set]; exact ok.len
  kp := ok.kp
  tab := ok.tab
  s0 := ok.s0
  ns := fun i a e => ok.ns i a (ownB_some e).2
  val := fun j s e => by
    by_cases hj : i = j
    · subst hj
      rw [List.getElem?_set] at e
      rw [if_pos rfl] at e
      split at e <;> cases e
    · rw [List.getElem?_set_ne hj] at e
      exact (ok.val j s e).imp (Keep.refl H) (List.getElem?_set_ne hj) (ownB_iff (not_one hj)) fun _ z _ => av_ownB' z
  ow := fun i a e => ok.ow i a (ownB_some e).2
  inj := fun i j a e1 e2 => ok.inj i j a (ownB_some e1).2 (ownB_some e2).2
  pin := fun p hp => (ok.pin p hp).mono fun a z _ => av_ownB' z
/-- what the name i holds alone is changed to the set N, new or its own -/
def ownN (own : Nat → Addr → Prop) (i : Nat) (N : Addr → Prop) : Nat → Addr → Prop := fun j a => (j = i ∧ N a) ∨ (j ≠ i ∧ own j a)
abbrev ownP (own : Nat → Addr → Prop) (i : Nat) (p : Addr) : Nat → Addr → Prop := ownN own i (· = p)
theorem ownN_ne {own : Nat → Addr → Prop} {i j : Nat} {N : Addr → Prop} (h : ¬ i = j) (a : Addr) : ownN own i N j a ↔ own j a :=
  ⟨fun z => z.elim (fun z => absurd z.1.symm h) fun z => z.2, fun z => .inr ⟨fun e => h e.symm, z⟩⟩
theorem ownN_same {own : Nat → Addr → Prop} {i : Nat} {N : Addr → Prop} (a : Addr) : ownN own i N i a ↔ N a :=
  ⟨fun z => z.elim (fun z => z.2) fun z => absurd rfl z.1, fun z => .inl ⟨rfl, z⟩⟩
/-- new things are stored, held by the name alone. H: ahead of their making; H': behind -/
theorem OK.setN (ok : OK G He H S0 P own σ δ) (k : Keep H H') {v : V} {s : SV} (i : Nat) {N : Addr → Prop} (hN : ∀ a, N a → H a = none ∧ OwnO H' a)
    (hv : i < δ.length → ValOk G H' S0 (ownN own i N) (some (some v)) i s) : OK G He H' S0 P (ownN own i N) (σ.set i (some v)) (δ.set i (some s)) := by
  have av : ∀ a, Av S0 (ownN own i N) a → H a ≠ none → Av S0 own a := fun a z n => by
    rcases z with z | ⟨j, z | z⟩
    · exact .inl z
    · exact absurd (hN a z.2).1 n
    · exact .inr ⟨j, z.2⟩
  have ok' := ok.keep k
  refine ⟨by rw [List.length_set, List.length_set]; exact ok.len, ok'.kp, ok.tab, ok'.s0, fun j a e z => ?_, fun j s' e => ?_, fun j a e => ?_, fun j l a e1 e2 => ?_, fun q hq => ((ok.pin q hq).mono av).keep k⟩
  · rcases e with e | e
    · exact ok.s0 _ z (hN a e.2).1
    · exact ok.ns j a e.2 z
  · by_cases hj : i = j
    · subst hj
      rw [List.getElem?_set, if_pos rfl] at e
      split at e
      · rename_i hl
        cases e
        rw [List.getElem?_set_self (by rw [ok.len]; exact hl)]
        exact hv hl
      · cases e
    · rw [List.getElem?_set_ne hj] at e
      exact (ok.val j s' e).imp k (List.getElem?_set_ne hj) (ownN_ne hj) av
  · rcases e with e | e
    · exact ⟨ok.kp.free (hN a e.2).1, (hN a e.2).2⟩
    · exact ok'.ow j a e.2
  · have ne : ∀ {k}, N a → own k a → False := fun {k} h1 h2 => (ok.ow k a h2).2.some (hN a h1).1
    rcases e1 with e1 | e1 <;> rcases e2 with e2 | e2
    · rw [e1.1, e2.1]
    · exact (ne e1.2 e2.2).elim
    · exact (ne e2.2 e1.2).elim
    · exact ok.inj j l a e1.2 e2.2
/-- a new list is stored, held by the name alone. H: ahead of the list's making; H': behind -/
theorem OK.setL (ok : OK G He H S0 P own σ δ) (k : Keep H H') {p : Addr} {xs : List V} {ds : List D} (i : Nat) (hp : H p = none) (hp' : H' p = some (.lst xs)) (r : Reps G H' (fun a => Av S0 (ownB own [i]) a ∨ a = p) xs ds) :
    OK G He H' S0 P (ownP own i p) (σ.set i (some (.ref p))) (δ.set i (some (.ol ds))) := by
  refine ok.setN k i (fun a e => ⟨by rw [e]; exact hp, .inl ⟨xs, by rw [e]; exact hp'⟩⟩) fun _ => ⟨p, xs, rfl, fun b => ownN_same b, hp', r.mono fun a z _ => ?_⟩
  rcases z with z | ⟨j, z | z⟩
  · exact .inl (.inl z)
  · exact .inr z.2
  · exact .inl (.inr ⟨j, not_one (fun e => z.1 e.symm), z.2⟩)
/-- a list that a name holds alone is written -/
theorem OK.write (ok : OK G He H S0 P own σ δ) {i : Nat} {p : Addr} {xs ys : List V} {ds es : List D} (e : δ[i]? = some (some (.ol ds))) (ho : own i p) (hp : H p = some (.lst xs)) (r : Reps G H (Av S0 own) ys es) :
    OK G He (upd H p (.lst ys)) S0 P own σ (δ.set i (some (.ol es))) := by
  have hS : Av S0 own p := .inr ⟨i, ho⟩
  refine ⟨by rw [List.length_set]; exact ok.len, ok.kp.wr hp (ok.ow i p ho).1, ok.tab, fun a z => ?_, ok.ns, fun j s q => ?_, fun j a q => ?_, ok.inj, fun q hq => (ok.pin q hq).wr hS hp⟩
  · by_cases hap : a = p
    · rw [hap, upd_same]; simp
    · rw [upd_ne hap]; exact ok.s0 a z
  · by_cases hj : i = j
    · subst hj
      rw [List.getElem?_set, if_pos rfl] at q
      split at q
      · cases q
        obtain ⟨a, zs, h1, h2, h3, h4⟩ := ok.val i _ e
        obtain rfl := (h2 p).mp ho
        exact ⟨p, ys, h1, h2, upd_same, r.wr hS hp⟩
      · cases q
    · rw [List.getElem?_set_ne hj] at q
      have h := ok.val j s q
      have hap : ∀ a, own j a → a ≠ p := fun a h2 z => hj (ok.inj i j p ho (z ▸ h2))
      cases s with
      | sh d => obtain ⟨v, h1, h2⟩ := h; exact ⟨v, h1, h2.wr hS hp⟩
      | ol ds =>
        obtain ⟨a, zs, h1, h2, h3, h4⟩ := h
        exact ⟨a, zs, h1, h2, by rw [upd_ne (hap a ((h2 a).mpr rfl))]; exact h3, h4.wr hS hp⟩
      | oo c ds =>
        obtain ⟨a, dx, vs, h1, h2, h3, h4, h5, h6⟩ := h
        refine ⟨a, dx, vs, h1, h2, by rw [upd_ne (hap a h2)]; exact h3, h4, h5.imp fun v d f => ?_, h6⟩
        cases f with
        | fl a r => exact .fl a (r.wr hS hp)
        | ls o e r => exact .ls o (by rw [upd_ne (hap _ o)]; exact e) (r.wr hS hp)
      | on ds =>
        obtain ⟨a, vs, h1, h2, h3, h5, h6⟩ := h
        refine ⟨a, vs, h1, h2, by rw [upd_ne (hap a h2)]; exact h3, h5.imp fun v d f => ?_, h6⟩
        cases f with
        | fl a r => exact .fl a (r.wr hS hp)
        | ls o e r => exact .ls o (by rw [upd_ne (hap _ o)]; exact e) (r.wr hS hp)
  · obtain ⟨h1, h2⟩ := ok.ow j a q
    refine ⟨h1, ?_⟩
    by_cases ha : a = p
    · subst ha; exact .inl ⟨ys, upd_same⟩
    · rcases h2 with ⟨zs, h2⟩ | ⟨C, dx, fs, h2, h3⟩
      · exact .inl ⟨zs, by rw [upd_ne ha]; exact h2⟩
      · exact .inr ⟨C, dx, fs, by rw [upd_ne ha]; exact h2, h3⟩
end
end U
end
section
set_option Elab.async false
set_option linter.all false
set_option maxRecDepth 100000
set_option maxHeartbeats 1000000
namespace U
open PySem PySem.Spec L2
/-! ### readings -/
def tU (G : GG) (f : UEf) (B : List Nat) : TE := fun σ H Q => ∃ He S0 P own δ d, OK G He H S0 P own σ δ ∧ f δ = some d ∧ ∀ v H', Keep H H' → Rep G H' (AvB S0 own B) v d → Q v H'
def tUL (G : GG) (f : ULf) (B : List Nat) : TE := fun σ H Q => ∃ He S0 P own δ ds, OK G He H S0 P own σ δ ∧ f δ = some ds ∧
  ∀ p xs H', Keep H H' → H p = none → H' p = some (.lst xs) → Reps G H' (fun a => AvB S0 own B a ∨ a = p) xs ds → Q (.ref p) H'
def tUT (G : GG) (f : UTf) : TT := fun σ H Q => ∃ He S0 P own δ b, OK G He H S0 P own σ δ ∧ f δ = some b ∧ ∀ H', Keep H H' → Q b H'
def tUA (G : GG) (f : ULf) (B : List Nat) : TA := fun σ H Q => ∃ He S0 P own δ ds, OK G He H S0 P own σ δ ∧ f δ = some ds ∧ ∀ vs H', Keep H H' → Reps G H' (AvB S0 own B) vs ds → Q vs H'
def RtPost (G : GG) (He : Hp) (S0 : Addr → Prop) (Q : VK) : SV → Prop
  | .sh d => ∀ v H', Keep He H' → Rep G H' S0 v d → Q v H'
  | .ol ds => ∀ p xs H', Keep He H' → He p = none → H' p = some (.lst xs) → Reps G H' (fun a => S0 a ∨ a = p) xs ds → Q (.ref p) H'
  | .oo c ds => ∀ (N : Addr → Prop) a dx vs H', Keep He H' → (∀ b, N b → He b = none ∧ OwnO H' b) → N a → H' a = some (.ins (G.cls c) dx ((G.flds c).zip vs)) → vs.length = (G.flds c).length → FldsOk G H' (fun b => S0 b ∨ N b) N vs ds → OneRef vs → Q (.ref a) H'
  | .on ds => ∀ v H', Keep He H' → Rep G H' S0 v (.lst ds) → Q v H'
def SRPost (G : GG) (He : Hp) (S0 : Addr → Prop) (P : List (V × D)) (D' : Ends) : SR → Prop
  | .nx δ => ∀ σ H own, OK G He H S0 P own σ δ → D'.nx σ H
  | .bk δ => ∀ σ H own, OK G He H S0 P own σ δ → D'.bk σ H
  | .ct δ => ∀ σ H own, OK G He H S0 P own σ δ → D'.ct σ H
  | .rt r => RtPost G He S0 D'.rt r
def tUS (G : GG) (f : US) : TS := fun D' σ H => ∃ He S0 P own δ n r, OK G He H S0 P own σ δ ∧ f n δ = some r ∧ SRPost G He S0 P D' r
/-- a def's promise -/
def uSp (G : GG) (n : Nat) (F : List D → Option SV) : Sp := fun vs H Q _ => ∃ S0 ds r, vs.length = n ∧ (∀ a, S0 a → H a ≠ none) ∧ TabOk G H ∧ Reps G H S0 vs ds ∧ F ds = some r ∧ RtPost G H S0 Q r
/-! ### judgements, closed to the unifier -/
structure UE (G : GG) (X : Cx) (e : Expr) (f : UEf) (B : List Nat) : Prop where
  pe : PE X e (tU G f B)
structure UL (G : GG) (X : Cx) (e : Expr) (f : ULf) (B : List Nat) : Prop where
  pe : PE X e (tUL G f B)
structure UT (G : GG) (X : Cx) (e : Expr) (f : UTf) : Prop where
  pt : PT X e (tUT G f)
structure UA (G : GG) (X : Cx) (es : List Expr) (f : ULf) (B : List Nat) : Prop where
  pa : PA X es (tUA G f B)
structure USt (G : GG) (X : Cx) (s : Stmt) (f : US) : Prop where
  ps : PS X s (tUS G f)
structure USs (G : GG) (X : Cx) (s : List Stmt) (f : US) : Prop where
  ps : PSs X s (tUS G f)
section
variable {G : GG} {X : Cx}
theorem PE.weak {e : Expr} {t t' : TE} (h : PE X e t) (w : ∀ σ H Q, t' σ H Q → t σ H Q) : PE X e t' := fun pins s σ H Q I hw => h pins s σ H Q I (w _ _ _ hw)
theorem PT.weak {e : Expr} {t t' : TT} (h : PT X e t) (w : ∀ σ H Q, t' σ H Q → t σ H Q) : PT X e t' := fun pins s σ H Q I hw => h pins s σ H Q I (w _ _ _ hw)
theorem PA.weak {e : List Expr} {t t' : TA} (h : PA X e t) (w : ∀ σ H Q, t' σ H Q → t σ H Q) : PA X e t' := fun pos pins s σ H Q I hw => h pos pins s σ H Q I (w _ _ _ hw)
theorem PS.weak {e : Stmt} {t t' : TS} (h : PS X e t) (w : ∀ D σ H, t' D σ H → t D σ H) : PS X e t' := fun pins s σ H D I hw => h pins s σ H D I (w _ _ _ hw)
theorem PSs.weak {e : List Stmt} {t t' : TS} (h : PSs X e t) (w : ∀ D σ H, t' D σ H → t D σ H) : PSs X e t' := fun pins s σ H D I hw => h pins s σ H D I (w _ _ _ hw)
theorem avB_mono {S0 : Addr → Prop} {own : Nat → Addr → Prop} {B C : List Nat} (h : ∀ i ∈ B, i ∈ C) {a : Addr} (z : AvB S0 own C a) : AvB S0 own B a := z.imp id fun ⟨i, hi, e⟩ => ⟨i, fun m => hi (h i m), e⟩
section
variable {He H H' : Hp} {S0 : Addr → Prop} {P : List (V × D)} {own : Nat → Addr → Prop} {σ : L2.St} {δ : DS}
theorem OK.avSome (ok : OK G He H S0 P own σ δ) {B : List Nat} {a : Addr} (z : AvB S0 own B a) : H a ≠ none := by
  rcases z with z | ⟨i, _, e⟩
  · exact ok.s0 a z
  · exact (ok.ow i a e).2.some
/-- a new object, seen as a thing that others may hold too -/
theorem obj_shared {c : Nat} {ds : List D} {N S S' : Addr → Prop} {a dx : Addr} {vs : List V} (hS : ∀ b, S' b → S b) (hf : ∀ b, S' b → H b ≠ none) (hN : ∀ b, N b → H b = none) (ha : N a) (e : H' a = some (.ins (G.cls c) dx ((G.flds c).zip vs))) (hl : vs.length = (G.flds c).length) (r : FldsOk G H' (fun b => S b ∨ N b) N vs ds) : Rep G H' S' (.ref a) (.obj c ds) :=
  .obj e hl (fun z => hf a z (hN a ha)) (r.reps (fun b z => .inl (hS b z)) fun b n z => hf b z (hN b n))
end
/-! ### names and constants -/
theorem u_var {i : Nat} {x : Str} {pos : Pos} (hN : X.N[i]? = some x := by rfl) (hv : Vis X.env.scope x := by first | exact Or.inl rfl | exact Or.inr (Or.inl rfl) | exact Or.inr (Or.inr rfl)) (hd : (x == ("__debug__" : Str)) = false := by decide)
    (hcd : (x == ("__classdict__" : Str)) = false := by decide) : UE G X (.Name x pos) (uVar i) [i] := ⟨PE.weak (pe_var hN hv hd hcd) fun σ H Q ⟨He, S0, P, own, δ, d, ok, hf, k⟩ => by
  unfold uVar at hf
  split at hf
  · rename_i s e
    cases hf
    obtain ⟨v, h1, h2⟩ := ok.var e
    exact ⟨v, h1, k v H (Keep.refl H) h2⟩
  · cases hf⟩
theorem uc {e : Expr} {v : V} {d : D} (h : PE X e (tC v)) (r : ∀ G H S, Rep G H S v d) : UE G X e (uC d) [] := ⟨PE.weak h fun σ H Q ⟨He, S0, P, own, δ, d', ok, hf, k⟩ => by
  cases hf; exact k v H (Keep.refl H) (r _ _ _)⟩
theorem u_int {i j pos} : UE G X (.Constant (.int i) j pos) (uC (.int i)) [] := uc pe_int fun _ _ _ => .int _
theorem u_bl {b j pos} : UE G X (.Constant (.bool b) j pos) (uC (.bl b)) [] := uc pe_bl fun _ _ _ => .bl _
theorem u_non {j pos} : UE G X (.Constant .none j pos) (uC .non) [] := uc pe_non fun _ _ _ => .non
theorem u_str {x j pos} : UE G X (.Constant (.str x) j pos) (uC (.str x)) [] := uc pe_str fun _ _ _ => .str _
theorem u_globI {x : Str} {i : Int} {t : Tok} {pos : Pos} (hm : X.mg x = some (.int i t)) (hg : L2.Gl X x := by rfl) (hd : (x == ("__debug__" : Str)) = false := by decide) : UE G X (.Name x pos) (uC (.int i)) [] := uc (pe_glob (v := .int i) hg hm ⟨t, rfl⟩ hd) fun _ _ _ => .int _
/-! ### two parts, one after another -/
theorem tU.two {f g : UEf} {Ba Bb : List Nat} {σ : L2.St} {H : Hp} {R : V → V → Hp → Prop} {He : Hp} {S0 : Addr → Prop} {P : List (V × D)} {own : Nat → Addr → Prop} {δ : DS} {x y : D} (ok : OK G He H S0 P own σ δ) (hf : f δ = some x) (hg : g δ = some y)
    (h : ∀ v u H2, Keep H H2 → Rep G H2 (AvB S0 own (Ba ++ Bb)) v x → Rep G H2 (AvB S0 own (Ba ++ Bb)) u y → R v u H2) : tU G f Ba σ H fun v H1 => tU G g Bb σ H1 fun u H2 => R v u H2 :=
  ⟨He, S0, P, own, δ, x, ok, hf, fun v H1 k1 r1 => ⟨He, S0, P, own, δ, y, ok.keep k1, hg, fun u H2 k2 r2 =>
    h v u H2 (k1.trans k2) ((r1.keep k2).mono fun a z _ => avB_mono (fun i m => List.mem_append_left _ m) z) (r2.mono fun a z _ => avB_mono (fun i m => List.mem_append_right _ m) z)⟩⟩
/-- an operation on two values that hands back flat data or a part of them -/
theorem u_op2 {a b e : Expr} {f g : UEf} {Ba Bb : List Nat} {op : D → D → Option D} {r : R2} (hp : ∀ ta tb, PE X a ta → PE X b tb → PE X e (tOp r ta tb)) (ha : UE G X a f Ba) (hb : UE G X b g Bb)
    (ho : ∀ x y d, op x y = some d → ∀ (S : Addr → Prop) v u H (Q : VK), Rep G H S v x → Rep G H S u y → (∀ w H', Keep H H' → Rep G H' S w d → Q w H') → r v u H Q) : UE G X e (uOp op f g) (Ba ++ Bb) :=
  ⟨PE.weak (hp _ _ ha.pe hb.pe) fun σ H Q ⟨He, S0, P, own, δ, d, ok, hf, k⟩ => by
    unfold uOp at hf
    split at hf
    · rename_i x y h1 h2
      exact tU.two ok h1 h2 fun v u H2 k2 r1 r2 => ho x y d hf _ v u H2 Q r1 r2 fun w H' k' q => k w H' (k2.trans k') q
    · cases hf⟩
def dI (c : Int → Int → Bool) (g : Int → Int → D) : D → D → Option D
  | .int i, .int j => if c i j then some (g i j) else none
  | _, _ => none
theorem dI_of {c : Int → Int → Bool} {g : Int → Int → D} {x y d : D} (h : dI c g x y = some d) : ∃ i j, x = .int i ∧ y = .int j ∧ c i j = true ∧ d = g i j := by
  unfold dI at h
  split at h
  · rename_i i j
    split at h
    · rename_i hc
      exact ⟨i, j, rfl, rfl, hc, (Option.some.inj h).symm⟩
    · cases h
  · cases h
theorem ho_I {C : Int → Int → Prop} {c : Int → Int → Bool} {g : Int → Int → Int} (hc : ∀ i j, c i j = true → C i j) : ∀ x y d, dI c (fun i j => .int (g i j)) x y = some d → ∀ (S : Addr → Prop) v u H (Q : VK), Rep G H S v x → Rep G H S u y → (∀ w H', Keep H H' → Rep G H' S w d → Q w H') → rI C (fun i j => .int (g i j)) v u H Q := by
  intro x y d h S v u H Q r1 r2 k
  obtain ⟨i, j, rfl, rfl, hij, rfl⟩ := dI_of h
  cases r1; cases r2
  exact ⟨i, j, rfl, rfl, hc i j hij, k _ H (Keep.refl H) (.int _)⟩
theorem ho_I0 {g : Int → Int → Int} : ∀ x y d, dI (fun _ _ => true) (fun i j => .int (g i j)) x y = some d → ∀ (S : Addr → Prop) v u H (Q : VK), Rep G H S v x → Rep G H S u y → (∀ w H', Keep H H' → Rep G H' S w d → Q w H') → rI0 (fun i j => .int (g i j)) v u H Q := by
  intro x y d h S v u H Q r1 r2 k
  obtain ⟨i, j, rfl, rfl, hij, rfl⟩ := dI_of h
  cases r1; cases r2
  exact ⟨i, j, rfl, rfl, k _ H (Keep.refl H) (.int _)⟩
theorem ho_B0 {g : Int → Int → Bool} : ∀ x y d, dI (fun _ _ => true) (fun i j => .bl (g i j)) x y = some d → ∀ (S : Addr → Prop) v u H (Q : VK), Rep G H S v x → Rep G H S u y → (∀ w H', Keep H H' → Rep G H' S w d → Q w H') → rI0 (fun i j => .bl (g i j)) v u H Q := by
  intro x y d h S v u H Q r1 r2 k
  obtain ⟨i, j, rfl, rfl, hij, rfl⟩ := dI_of h
  cases r1; cases r2
  exact ⟨i, j, rfl, rfl, k _ H (Keep.refl H) (.bl _)⟩
def dAdd : D → D → Option D := dI (fun _ _ => true) fun i j => .int (i + j)
def dSub : D → D → Option D := dI (fun _ _ => true) fun i j => .int (i - j)
def dMod : D → D → Option D := dI (fun _ j => decide (0 < j)) fun i j => .int (i % j)
def dPow : D → D → Option D := dI (fun i j => decide (0 ≤ j) && decide (j ≤ 1000000) && decide (i.natAbs < 18446744073709551616)) fun i j => .int (i ^ j.toNat)
def dGt : D → D → Option D := dI (fun _ _ => true) fun i j => .bl (decide (j < i))
def dGe : D → D → Option D := dI (fun _ _ => true) fun i j => .bl (decide (j ≤ i))
variable {a b c : Expr} {f g h : UEf} {Ba Bb Bc : List Nat} {pos : Pos}
theorem u_add (ha : UE G X a f Ba) (hb : UE G X b g Bb) : UE G X (.BinOp a .Add b pos) (uOp dAdd f g) (Ba ++ Bb) := u_op2 (fun _ _ => pe_op op_add) ha hb ho_I0
theorem u_sub (ha : UE G X a f Ba) (hb : UE G X b g Bb) : UE G X (.BinOp a .Sub b pos) (uOp dSub f g) (Ba ++ Bb) := u_op2 (fun _ _ => pe_op op_sub) ha hb ho_I0
theorem u_mod (ha : UE G X a f Ba) (hb : UE G X b g Bb) : UE G X (.BinOp a .Mod b pos) (uOp dMod f g) (Ba ++ Bb) := u_op2 (fun _ _ => pe_op op_mod) ha hb (ho_I fun i j hc => of_decide_eq_true hc)
theorem u_pow (ha : UE G X a f Ba) (hb : UE G X b g Bb) : UE G X (.BinOp a .Pow b pos) (uOp dPow f g) (Ba ++ Bb) := u_op2 (fun _ _ => pe_op op_pow) ha hb (ho_I fun i j hc => by
  simp only [Bool.and_eq_true, decide_eq_true_eq] at hc; exact ⟨hc.1.1, hc.1.2, hc.2⟩)
/-- one part -/
theorem u_op1 {a e : Expr} {f : UEf} {Ba : List Nat} {op : D → Option D} {r : V → Hp → VK → Prop} (hp : ∀ ta, PE X a ta → PE X e (tUn r ta)) (ha : UE G X a f Ba)
    (ho : ∀ x d, op x = some d → ∀ (S : Addr → Prop) v H (Q : VK), Rep G H S v x → (∀ w H', Keep H H' → Rep G H' S w d → Q w H') → r v H Q) : UE G X e (uUn op f) Ba :=
  ⟨PE.weak (hp _ ha.pe) fun σ H Q ⟨He, S0, P, own, δ, d, ok, hf, k⟩ => by
    unfold uUn at hf
    split at hf
    · rename_i x h1
      exact ⟨He, S0, P, own, δ, x, ok, h1, fun v H1 k1 r1 => ho x d hf _ v H1 Q r1 fun w H' k' q => k w H' (k1.trans k') q⟩
    · cases hf⟩
def dNeg : D → Option D
  | .int i => some (.int (-i))
  | _ => none
theorem u_neg (ha : UE G X a f Ba) : UE G X (.UnaryOp .USub a pos) (uUn dNeg f) Ba := u_op1 (fun _ => pe_un un_neg) ha fun x d h S v H Q r k => by
  unfold dNeg at h
  split at h
  · cases h; cases r; exact ⟨_, rfl, k _ H (Keep.refl H) (.int _)⟩
  · cases h
/-- the data is equal: None, bools, whole numbers, texts, lists, tuples of these -/
def dIsN (x : D) : Bool := match x with | .non => true | _ => false
theorem rep_non {H : Hp} {S : Addr → Prop} {v : V} {x : D} (r : Rep G H S v x) : decide (v = .non) = dIsN x := by
  cases r <;> first | rfl | (apply decide_eq_false; intro e; cases e)
/-- a op1 b op2 c of ints -/
def dCh (p q : Int → Int → Bool) : D → D → D → Option D
  | .int i, .int j, .int k => some (.bl (p i j && q j k))
  | _, _, _ => none
def uCh (p q : Int → Int → Bool) (f g h : UEf) : UEf := fun δ => match f δ, g δ, h δ with
  | some x, some y, some z => dCh p q x y z
  | _, _, _ => none
theorem u_chain {op op' : CmpOp} {p q : Int → Int → Bool} (ho : OpR X (compareOp op) (rI0 fun i j => .bl (p i j))) (ho' : OpR X (compareOp op') (rI0 fun i j => .bl (q i j))) (ha : UE G X a f Ba) (hb : UE G X b g Bb) (hc : UE G X c h Bc)
    (hm : lastMarks [op, op'] [b, c] = false := by with_unfolding_all rfl) : UE G X (.Compare a [op, op'] [b, c] pos) (uCh p q f g h) [] := ⟨PE.weak (pe_chain ho ho' ha.pe hb.pe hc.pe hm) fun σ H Q ⟨He, S0, P, own, δ, d, ok, hf, k⟩ => by
  unfold uCh at hf
  split at hf
  · rename_i x y z h1 h2 h3
    unfold dCh at hf
    split at hf
    · rename_i i j l
      cases hf
      refine tU.two ok h1 h2 fun v u H2 k2 r1 r2 => ?_
      cases r1; cases r2
      refine ⟨i, j, rfl, rfl, p i j, rfl, ?_⟩
      cases e : p i j with
      | false => rw [if_neg Bool.false_ne_true]; exact k _ H2 k2 (by rw [e]; exact .bl _)
      | true =>
        rw [if_pos rfl]
        refine ⟨He, S0, P, own, δ, _, ok.keep k2, h3, fun w H3 k3 r3 => ?_⟩
        cases r3
        exact ⟨j, l, rfl, rfl, k _ H3 (k2.trans k3) (by rw [e]; exact .bl _)⟩
    · cases hf
  · cases hf⟩
/-! ### tests -/
theorem ut_val (ha : UE G X a f Ba) (he : ∀ whole, isTrue a X.env whole = (do let v ← whole; standAt a.pos; holding [v] (truthy v)) := by intro _; rfl) : UT G X a (uB f) := ⟨PT.weak (pt_val ha.pe he) fun σ H Q ⟨He, S0, P, own, δ, bb, ok, hf, k⟩ => by
  unfold uB at hf
  split at hf
  · rename_i b e
    cases hf
    exact ⟨He, S0, P, own, δ, _, ok, e, fun v H1 k1 r1 => by cases r1; exact ⟨_, rfl, k H1 k1⟩⟩
  · cases hf⟩
/-- a comparison as a test -/
theorem ut_op2 {a b e : Expr} {f g : UEf} {Ba Bb : List Nat} {op : D → D → Option D} {r : R2} (hp : ∀ ta tb, PE X a ta → PE X b tb → PT X e (tTest (tOp r ta tb))) (ha : UE G X a f Ba) (hb : UE G X b g Bb)
    (ho : ∀ x y d, op x y = some d → ∀ (S : Addr → Prop) v u H (Q : VK), Rep G H S v x → Rep G H S u y → (∀ w H', Keep H H' → Rep G H' S w d → Q w H') → r v u H Q) : UT G X e (uB (uOp op f g)) :=
  ⟨PT.weak (hp _ _ ha.pe hb.pe) fun σ H Q ⟨He, S0, P, own, δ, bb, ok, hf, k⟩ => by
    unfold uB at hf
    split at hf
    · rename_i b' e
      cases hf
      unfold uOp at e
      split at e
      · rename_i x y h1 h2
        exact tU.two ok h1 h2 fun v u H2 k2 r1 r2 => ho x y _ e _ v u H2 _ r1 r2 fun w H' k' q => by cases q; exact ⟨_, rfl, k H' (k2.trans k')⟩
      · cases e
    · cases hf⟩
theorem ut_gt (ha : UE G X a f Ba) (hb : UE G X b g Bb) : UT G X (.Compare a [.Gt] [b] pos) (uB (uOp dGt f g)) := ut_op2 (fun _ _ h1 h2 => pt_cmpR op_gt h1 h2 (nomark _)) ha hb ho_B0
theorem ut_ge (ha : UE G X a f Ba) (hb : UE G X b g Bb) : UT G X (.Compare a [.GtE] [b] pos) (uB (uOp dGe f g)) := ut_op2 (fun _ _ h1 h2 => pt_cmpR op_ge h1 h2 (nomark _)) ha hb ho_B0
theorem ut_isN {j pos'} (ha : UE G X a f Ba) : UT G X (.Compare a [.Is] [.Constant .none j pos'] pos) (uB (uUn (fun x => some (.bl (dIsN x))) f)) :=
  ⟨PT.weak (pt_cmp (pc_isN ha.pe) (nobehind _ (by decide) (by decide))) fun σ H Q ⟨He, S0, P, own, δ, bb, ok, hf, k⟩ => by
    unfold uB uUn at hf
    split at hf
    · rename_i b' e
      cases hf
      split at e
      · rename_i x h1
        cases e
        exact ⟨He, S0, P, own, δ, x, ok, h1, fun v H1 k1 r1 => ⟨_, by rw [rep_non r1], k H1 k1⟩⟩
      · cases e
    · cases hf⟩
end
end U
end
section
set_option Elab.async false
set_option linter.all false
set_option maxRecDepth 100000
set_option maxHeartbeats 1000000
namespace U
open PySem PySem.Spec L2
section
variable {G : GG} {X : Cx} {a b c e : Expr} {es rest : List Expr} {f g h : UEf} {fs gs : ULf} {Ba Bb Bc B : List Nat} {pos : Pos} {ta tb tc : UTf}
/-! ### and, or, not -/
structure UW (G : GG) (X : Cx) (e : Expr) (f : UTf) : Prop where
  pw : PW X e (tUT G f)
theorem PW.weak {e : Expr} {t t' : TT} (h : PW X e t) (w : ∀ σ H Q, t' σ H Q → t σ H Q) : PW X e t' := fun wh pins s σ H Q I hw => h wh pins s σ H Q I (w _ _ _ hw)
theorem uw_or1 (ha : UT G X a ta) : UW G X (.BoolOp .Or [a] pos) ta := ⟨pw_or1 ha.pt⟩
theorem uw_or (ha : UT G X a ta) (hb : UW G X (.BoolOp .Or (b :: rest) pos) tb) : UW G X (.BoolOp .Or (a :: b :: rest) pos) (uOr ta tb) := ⟨PW.weak (pw_or ha.pt hb.pw) fun σ H Q ⟨He, S0, P, own, δ, bb, ok, hf, k⟩ => by
  unfold uOr at hf
  split at hf
  · rename_i e
    cases hf
    refine ⟨He, S0, P, own, δ, true, ok, e, fun H1 k1 => ?_⟩
    refine iteT ?_
    exact k H1 k1
  · rename_i e
    refine ⟨He, S0, P, own, δ, false, ok, e, fun H1 k1 => ?_⟩
    refine iteF ?_
    exact ⟨He, S0, P, own, δ, bb, ok.keep k1, hf, fun H2 k2 => k H2 (k1.trans k2)⟩
  · cases hf⟩
theorem ut_w (h : UW G X e ta) : UT G X e ta := ⟨h.pw.pt⟩
theorem ut_not (ha : UT G X a ta) : UT G X (.UnaryOp .Not a pos) (uNot ta) := ⟨PT.weak (pt_not ha.pt) fun σ H Q ⟨He, S0, P, own, δ, bb, ok, hf, k⟩ => by
  unfold uNot at hf
  obtain ⟨y, e, rfl⟩ := Option.map_eq_some_iff.mp hf
  exact ⟨He, S0, P, own, δ, y, ok, e, k⟩⟩
/-- as values, of bools -/
def uAndV (f g : UEf) : UEf := fun δ => match f δ with | some (.bl true) => g δ | some (.bl false) => some (.bl false) | _ => none
theorem u_one {op} (h : UE G X a f Ba) : UE G X (.BoolOp op [a] pos) f Ba := ⟨pe_one h.pe⟩
theorem u_and (ha : UE G X a f Ba) (hb : UE G X (.BoolOp .And (b :: rest) pos) g Bb) : UE G X (.BoolOp .And (a :: b :: rest) pos) (uAndV f g) Bb := ⟨PE.weak (pe_and ha.pe hb.pe) fun σ H Q ⟨He, S0, P, own, δ, d, ok, hf, k⟩ => by
  unfold uAndV at hf
  split at hf
  · rename_i e
    refine ⟨He, S0, P, own, δ, _, ok, e, fun v H1 k1 r1 => ?_⟩
    cases r1
    refine ⟨true, rfl, ?_⟩
    refine iteT ?_
    exact ⟨He, S0, P, own, δ, d, ok.keep k1, hf, fun u H2 k2 => k u H2 (k1.trans k2)⟩
  · rename_i e
    cases hf
    refine ⟨He, S0, P, own, δ, _, ok, e, fun v H1 k1 r1 => ?_⟩
    cases r1
    refine ⟨false, rfl, ?_⟩
    refine iteF ?_
    exact k _ H1 k1 (.bl _)
  · cases hf⟩
def dNot : D → Option D
  | .bl b => some (.bl (!b))
  | _ => none
theorem u_not (ha : UE G X a f Ba) : UE G X (.UnaryOp .Not a pos) (uUn dNot f) Ba := u_op1 (r := fun x H Q => ∃ c, x = .bl c ∧ Q (.bl (!c)) H) (fun _ => pe_not) ha fun x d h S v H Q r k => by
  unfold dNot at h
  split at h
  · cases h; cases r; exact ⟨_, rfl, k _ H (Keep.refl H) (.bl _)⟩
  · cases h
theorem u_if (hc : UT G X c tc) (ha : UE G X a f Ba) (hb : UE G X b g Bb) : UE G X (.IfExp c a b pos) (uIf tc f g) (Ba ++ Bb) := ⟨PE.weak (pe_ifExp hc.pt ha.pe hb.pe) fun σ H Q ⟨He, S0, P, own, δ, d, ok, hf, k⟩ => by
  unfold uIf at hf
  split at hf
  · rename_i e
    refine ⟨He, S0, P, own, δ, _, ok, e, fun H1 k1 => ?_⟩
    refine iteT ?_
    exact ⟨He, S0, P, own, δ, d, ok.keep k1, hf, fun u H2 k2 r2 => k u H2 (k1.trans k2) (r2.mono fun a z _ => avB_mono (fun i m => List.mem_append_left _ m) z)⟩
  · rename_i e
    refine ⟨He, S0, P, own, δ, _, ok, e, fun H1 k1 => ?_⟩
    refine iteF ?_
    exact ⟨He, S0, P, own, δ, d, ok.keep k1, hf, fun u H2 k2 r2 => k u H2 (k1.trans k2) (r2.mono fun a z _ => avB_mono (fun i m => List.mem_append_right _ m) z)⟩
  · cases hf⟩
/-! ### a list that was just made, as a value -/
theorem u_l (h : UL G X a fs Ba) : UE G X a (uList fs) Ba := ⟨PE.weak h.pe fun σ H Q ⟨He, S0, P, own, δ, d, ok, hf, k⟩ => by
  unfold uList at hf
  obtain ⟨ds, e, rfl⟩ := Option.map_eq_some_iff.mp hf
  exact ⟨He, S0, P, own, δ, ds, ok, e, fun p xs H' k' n hp r => k _ H' k' (.lst hp (fun z => ok.avSome z n) (r.mono fun a z _ => .inl z))⟩⟩
/-! ### several -/
theorem ua_nil : UA G X [] uNil [] := ⟨PA.weak pa_nil fun σ H Q ⟨He, S0, P, own, δ, d, ok, hf, k⟩ => by cases hf; exact k [] H (Keep.refl H) .nil⟩
theorem ua_cons (ha : UE G X e f Ba) (hr : UA G X es gs Bb) (hs : starEach (e :: es) X.env = (false, eval e X.env) :: starEach es X.env := by rfl) : UA G X (e :: es) (uCons f gs) (Ba ++ Bb) := ⟨PA.weak (pa_cons ha.pe hr.pa hs) fun σ H Q ⟨He, S0, P, own, δ, d, ok, hf, k⟩ => by
  unfold uCons at hf
  split at hf
  · rename_i x xs h1 h2
    cases hf
    exact ⟨He, S0, P, own, δ, x, ok, h1, fun v H1 k1 r1 => ⟨He, S0, P, own, δ, xs, ok.keep k1, h2, fun vs H2 k2 r2 => k _ H2 (k1.trans k2)
      (.cons ((r1.keep k2).mono fun a z _ => avB_mono (fun i m => List.mem_append_left _ m) z) (r2.mono fun a z _ => avB_mono (fun i m => List.mem_append_right _ m) z))⟩⟩
  · cases hf⟩
def small (n : Nat) : Bool := decide (n ≤ 1000000)
theorem small_ok {n : Nat} (h : small n = true) : n ≤ sizeLine := Nat.le_trans (of_decide_eq_true h) (by rw [sizeLine_eq]; decide)
theorem small_lt {n : Nat} (h : small n = true) : n < sizeLine := Nat.lt_of_le_of_lt (of_decide_eq_true h) (by rw [sizeLine_eq]; decide)
def sm (xs : List D) : Option (List D) := if small xs.length then some xs else none
theorem sm_of {xs ys : List D} (h : sm xs = some ys) : ys = xs ∧ small xs.length = true := by
  unfold sm at h
  split at h
  · exact ⟨(Option.some.inj h).symm, by assumption⟩
  · cases h
def uSm (f : ULf) : ULf := fun δ => match f δ with | some xs => sm xs | none => none
theorem uSm_of {f : ULf} {δ : DS} {ds : List D} (h : uSm f δ = some ds) : f δ = some ds ∧ small ds.length = true := by
  unfold uSm at h
  split at h
  · rename_i xs e
    obtain ⟨rfl, h2⟩ := sm_of h
    exact ⟨e, h2⟩
  · cases h
theorem u_tup {x1} (h : UA G X es gs Bb) : UE G X (.Tuple es x1 pos) (uTup (uSm gs)) Bb := ⟨PE.weak (pe_tup h.pa) fun σ H Q ⟨He, S0, P, own, δ, d, ok, hf, k⟩ => by
  unfold uTup at hf
  obtain ⟨ds, e, rfl⟩ := Option.map_eq_some_iff.mp hf
  obtain ⟨e, z⟩ := uSm_of e
  exact ⟨He, S0, P, own, δ, ds, ok, e, fun vs H1 k1 r1 => ⟨small_ok (by rw [r1.length]; exact z), fun p hp => k _ _ (k1.trans (Keep.new hp)) (.tup upd_same (r1.keep (Keep.new hp)))⟩⟩⟩
theorem ul_lst (h : UA G X es gs Bb) : UL G X (.List es pos) (uSm gs) Bb := ⟨PE.weak (pe_lst h.pa) fun σ H Q ⟨He, S0, P, own, δ, ds, ok, hf, k⟩ => by
  obtain ⟨e, z⟩ := uSm_of hf
  exact ⟨He, S0, P, own, δ, ds, ok, e, fun vs H1 k1 r1 => ⟨small_ok (by rw [r1.length]; exact z), fun p hp => k p vs _ (k1.trans (Keep.new hp)) (k1.free hp) upd_same
    ((r1.mono fun a z n => z.elim id fun e => absurd hp (by rw [← e]; exact n)).keep (Keep.new hp))⟩⟩⟩
/-! ### calls of the text's own defs -/
section
variable {k n : Nat} {F : List D → Option SV} {fa : Addr} {fd : FuncData} {ps : List Str} {x : Str} {p : Pos}
theorem RtPost.mono {G : GG} {He : Hp} {S0 : Addr → Prop} {Q Q' : VK} (i : ∀ v H, Q v H → Q' v H) : ∀ {r : SV}, RtPost G He S0 Q r → RtPost G He S0 Q' r
  | .sh d, h => fun v H' k r => i _ _ (h v H' k r)
  | .ol ds, h => fun p xs H' k n e r => i _ _ (h p xs H' k n e r)
  | .oo c ds, h => fun N a dx vs H' k n ha e hl r o => i _ _ (h N a dx vs H' k n ha e hl r o)
  | .on ds, h => fun v H' k r => i _ _ (h v H' k r)
/-- what the caller sees -/
theorem call_read {He H H1 : Hp} {S0 : Addr → Prop} {P : List (V × D)} {own : Nat → Addr → Prop} {σ : L2.St} {δ : DS} {vs : List V} {ds : List D} {r : SV} {Q : VK} (ok : OK G He H S0 P own σ δ) (k1 : Keep H H1) (hl : vs.length = n) (rv : Reps G H1 (AvB S0 own B) vs ds) (hF : F ds = some r)
    (q : RtPost G H1 (AvB S0 own B) Q r) : uSp G n F (vs ++ []) H1 Q E0 := by
  rw [List.append_nil]
  exact ⟨AvB S0 own B, ds, r, hl, fun a z => (ok.keep k1).avSome z, (ok.keep k1).tab.keep (ok.keep k1).kp, rv, hF, q⟩
theorem u_call (hF : FnOk X.prog X.w X.K X.mg X.base CX0 k fa fd ps (uSp G n F)) (hr : Room k X.A) (hm : X.mg x = some (.ref fa)) (hk : PySem.W.keepIn X.K (.ref fa) = true) (hb : Binds X.K fd ps []) (ha : UA G X (e :: es) fs B) (hn : (e :: es).length = n := by rfl)
    (hg : L2.Gl X x := by rfl) (hdb : (x == ("__debug__" : Str)) = false := by decide) (he : starEach (e :: es) X.env = (false, eval e X.env) :: starEach es X.env := by rfl) (hpl : (backTo pos (starEach es X.env)).any (·.1) = false := by rfl)
    (hlen : ∀ δ ds, fs δ = some ds → ds.length = n) : UE G X (.Call (.Name x p) (e :: es) [] pos) (uCall F fs) B :=
  ⟨PE.weak (pe_call (CX := CX0) (E := E0) (dvs := []) hF hr hg hm hk hb .nil pass0 ha.pa hdb he hpl) fun σ H Q ⟨He, S0, P, own, δ, d, ok, hf, kk⟩ => by
    unfold uCall at hf
    split at hf
    · rename_i ds h1
      obtain ⟨r, h2, rfl⟩ := Option.map_eq_some_iff.mp hf
      refine ⟨He, S0, P, own, δ, ds, ok, h1, fun vs H1 k1 r1 => call_read ok k1 (by rw [r1.length]; exact hlen δ ds h1) r1 h2 ?_⟩
      cases r with
      | sh d => exact fun v H' k' r => kk v H' (k1.trans k') r
      | ol xs => exact fun p ys H' k' n e r => kk _ H' (k1.trans k') (.lst e (fun z => (ok.keep k1).avSome z n) (r.mono fun a z _ => .inl z))
      | oo c ds => exact fun N a dx vs H' k' hN ha e hl r o => kk _ H' (k1.trans k') (obj_shared (fun b z => z) (fun b z => (ok.keep k1).avSome z) (fun b z => (hN b z).1) ha e hl r)
      | on ds => exact fun v H' k' r => kk v H' (k1.trans k') r
    · cases hf⟩
theorem ul_call (hF : FnOk X.prog X.w X.K X.mg X.base CX0 k fa fd ps (uSp G n F)) (hr : Room k X.A) (hm : X.mg x = some (.ref fa)) (hk : PySem.W.keepIn X.K (.ref fa) = true) (hb : Binds X.K fd ps []) (ha : UA G X (e :: es) fs B) (hn : (e :: es).length = n := by rfl)
    (hg : L2.Gl X x := by rfl) (hdb : (x == ("__debug__" : Str)) = false := by decide) (he : starEach (e :: es) X.env = (false, eval e X.env) :: starEach es X.env := by rfl) (hpl : (backTo pos (starEach es X.env)).any (·.1) = false := by rfl)
    (hlen : ∀ δ ds, fs δ = some ds → ds.length = n) : UL G X (.Call (.Name x p) (e :: es) [] pos) (uCallL F fs) B :=
  ⟨PE.weak (pe_call (CX := CX0) (E := E0) (dvs := []) hF hr hg hm hk hb .nil pass0 ha.pa hdb he hpl) fun σ H Q ⟨He, S0, P, own, δ, d, ok, hf, kk⟩ => by
    unfold uCallL at hf
    split at hf
    · rename_i ds h1
      split at hf
      · rename_i xs h2
        cases hf
        exact ⟨He, S0, P, own, δ, ds, ok, h1, fun vs H1 k1 r1 => call_read ok k1 (by rw [r1.length]; exact hlen δ ds h1) r1 h2 fun p ys H' k' n e r => kk p ys H' (k1.trans k') (k1.free n) e r⟩
      · cases hf
    · cases hf⟩
end
/-! ### statements -/
variable {st : Stmt} {sts : List Stmt} {u v : US}
theorem us_nil : USs G X [] uNext := ⟨PSs.weak pss_nil fun D σ H ⟨He, S0, P, own, δ, n, r, ok, hf, k⟩ => by cases hf; exact k σ H own ok⟩
theorem us_cons (h1 : USt G X st u) (h2 : USs G X sts v) : USs G X (st :: sts) (uSeq u v) := ⟨PSs.weak (pss_cons h1.ps h2.ps) fun D σ H ⟨He, S0, P, own, δ, n, r, ok, hf, k⟩ => by
  unfold uSeq at hf
  split at hf
  · rename_i δ' e
    exact ⟨He, S0, P, own, δ, n, _, ok, e, fun σ' H' own' ok' => ⟨He, S0, P, own', δ', n, r, ok', hf, k⟩⟩
  · rename_i hn
    refine ⟨He, S0, P, own, δ, n, r, ok, hf, ?_⟩
    cases r with
    | nx δ' => exact absurd hf (hn δ')
    | rt r => exact k
    | bk δ' => exact k
    | ct δ' => exact k⟩
theorem us_one (h1 : USt G X st u) : USs G X [st] u := ⟨pss_one h1.ps⟩
theorem us_never : USt G X st uNever := ⟨PS.weak ps_never fun D σ H ⟨He, S0, P, own, δ, n, r, ok, hf, k⟩ => by cases hf⟩
theorem us_expr (he : UE G X e f B) (hs : swapsWith e none pos.line X.env = pure false := by rfl) : USt G X (.Expr e pos) (uDrop f) := ⟨PS.weak (ps_expr he.pe hs) fun D σ H ⟨He, S0, P, own, δ, n, r, ok, hf, k⟩ => by
  unfold uDrop at hf
  obtain ⟨d, e, rfl⟩ := Option.map_eq_some_iff.mp hf
  exact ⟨He, S0, P, own, δ, d, ok, e, fun v H1 k1 r1 => k σ H1 own (ok.keep k1)⟩⟩
theorem us_if (hc : UT G X c tc) (ha : USs G X sts u) {sts' : List Stmt} (hb : USs G X sts' v) : USt G X (.If c sts sts' pos) (uIfS tc u v) := ⟨PS.weak (ps_if hc.pt ha.ps hb.ps) fun D σ H ⟨He, S0, P, own, δ, n, r, ok, hf, k⟩ => by
  unfold uIfS at hf
  split at hf
  · rename_i e
    refine ⟨He, S0, P, own, δ, _, ok, e, fun H1 k1 => ?_⟩
    refine iteT ?_
    exact ⟨He, S0, P, own, δ, n, r, ok.keep k1, hf, k⟩
  · rename_i e
    refine ⟨He, S0, P, own, δ, _, ok, e, fun H1 k1 => ?_⟩
    refine iteF ?_
    exact ⟨He, S0, P, own, δ, n, r, ok.keep k1, hf, k⟩
  · cases hf⟩
/-- what is handed back avoids S0 -/
theorem us_ret (he : UE G X e f B) : USt G X (.Return (some e) pos) (uRet f) := ⟨PS.weak (ps_ret he.pe) fun D σ H ⟨He, S0, P, own, δ, n, r, ok, hf, k⟩ => by
  unfold uRet at hf
  obtain ⟨d, e, rfl⟩ := Option.map_eq_some_iff.mp hf
  exact ⟨He, S0, P, own, δ, d, ok, e, fun v H1 k1 r1 => k v H1 (ok.kp.trans k1) (r1.mono fun a z _ => .inl z)⟩⟩
theorem us_retL (he : UL G X e fs B) : USt G X (.Return (some e) pos) (uRetL fs) := ⟨PS.weak (ps_ret he.pe) fun D σ H ⟨He, S0, P, own, δ, n, r, ok, hf, k⟩ => by
  unfold uRetL at hf
  obtain ⟨d, e, rfl⟩ := Option.map_eq_some_iff.mp hf
  exact ⟨He, S0, P, own, δ, d, ok, e, fun p xs H1 k1 n1 e1 r1 => k p xs H1 (ok.kp.trans k1) (ok.kp.free n1) e1 (r1.mono fun a z _ => z.imp .inl id)⟩⟩
theorem us_retV {i : Nat} {x : Str} {p : Pos} (hN : X.N[i]? = some x := by rfl) (hv : Vis X.env.scope x := by first | exact Or.inl rfl | exact Or.inr (Or.inl rfl) | exact Or.inr (Or.inr rfl)) (hd : (x == ("__debug__" : Str)) = false := by decide)
    (hcd : (x == ("__classdict__" : Str)) = false := by decide) : USt G X (.Return (some (.Name x p)) pos) (uRetV i) := ⟨PS.weak (ps_ret (pe_var hN hv hd hcd)) fun D σ H ⟨He, S0, P, own, δ, n, r, ok, hf, k⟩ => by
  unfold uRetV at hf
  split at hf
  · rename_i s e
    cases hf
    have h := ok.val i s e
    cases s with
    | sh d =>
      obtain ⟨v, h1, h2⟩ := h
      exact ⟨v, h1, k v H ok.kp (h2.mono fun a z _ => .inl z)⟩
    | ol ds =>
      obtain ⟨a, xs, h1, h2, h3, h4⟩ := h
      exact ⟨_, h1, k a xs H ok.kp (ok.ow i a ((h2 a).mpr rfl)).1 h3 (h4.mono fun b z _ => z.elim .inl fun e => .inr ⟨i, by rw [e]; exact (h2 a).mpr rfl⟩)⟩
    | oo c ds =>
      obtain ⟨a, dx, vs, h1, h2, h3, h4, h5, h6⟩ := h
      exact ⟨_, h1, k (own i) a dx vs H ok.kp (fun b z => ok.ow i b z) h2 h3 h4 (h5.mono (fun b z _ => z.elim .inl fun e => .inr ⟨i, e⟩) fun b z => z) h6⟩
    | on ds =>
      obtain ⟨v, h1, h2⟩ := ok.var e
      exact ⟨v, h1, k v H ok.kp (h2.mono fun a z _ => .inl z)⟩
  · cases hf⟩
/-- storing -/
theorem put_ok {He H : Hp} {S0 : Addr → Prop} {P : List (V × D)} {own : Nat → Addr → Prop} {σ : L2.St} {δ : DS} {v : V} {d : D} (ok : OK G He H S0 P own σ δ) (i : Nat) (r : Rep G H (AvB S0 own B) v d) : ∃ own', OK G He H S0 P own' (σ.set i (some v)) (put B δ i d) := by
  unfold put
  split
  · rename_i hf
    exact ⟨_, ok.set i (r.flat hf _ _)⟩
  · exact ⟨_, (ok.dem B).set i (r.mono fun a z _ => av_ownB (av_ownB' z))⟩
theorem putL_ok {He H H' : Hp} {S0 : Addr → Prop} {P : List (V × D)} {own : Nat → Addr → Prop} {σ : L2.St} {δ : DS} {p : Addr} {xs : List V} {ds : List D} (ok : OK G He H S0 P own σ δ) (k : Keep H H') (i : Nat) (hp : H p = none) (hp' : H' p = some (.lst xs)) (r : Reps G H' (fun a => AvB S0 own B a ∨ a = p) xs ds) :
    ∃ own', OK G He H' S0 P own' (σ.set i (some (.ref p))) (putL B δ i ds) := by
  unfold putL
  split
  · rename_i hf
    exact ⟨_, ok.setL k i hp hp' (r.flt hf _ _)⟩
  · exact ⟨_, (ok.dem B).setL k i hp hp' (r.mono fun a z _ => z.imp (fun z => av_ownB (av_ownB' z)) id)⟩
theorem us_set {i : Nat} {x : Str} {pos' : Pos} (he : UE G X e f B) (hN : X.N.Nodup) (hi : X.N[i]? = some x := by rfl) (hx : Loc X.env.scope x := by first | exact Or.inl rfl | exact Or.inr rfl) (hs : swapsWith e (some (.Name x pos')) pos.line X.env = pure false := by rfl)
    (hf : X.fn x = true ∨ X.env.scope.names.lookup x = some .local := by first | exact .inl rfl | exact .inr rfl) : USt G X (.Assign [.Name x pos'] e pos) (uSet i f B) := ⟨PS.weak (ps_set hN hi hx he.pe hs hf) fun D σ H ⟨He, S0, P, own, δ, n, r, ok, hf, k⟩ => by
  unfold uSet at hf
  obtain ⟨d, e, rfl⟩ := Option.map_eq_some_iff.mp hf
  exact ⟨He, S0, P, own, δ, d, ok, e, fun v H1 k1 r1 => by
    obtain ⟨own', ok'⟩ := put_ok (ok.keep k1) i r1
    exact k _ H1 own' ok'⟩⟩
theorem us_setL {i : Nat} {x : Str} {pos' : Pos} (he : UL G X e fs B) (hN : X.N.Nodup) (hi : X.N[i]? = some x := by rfl) (hx : Loc X.env.scope x := by first | exact Or.inl rfl | exact Or.inr rfl) (hs : swapsWith e (some (.Name x pos')) pos.line X.env = pure false := by rfl)
    (hf : X.fn x = true ∨ X.env.scope.names.lookup x = some .local := by first | exact .inl rfl | exact .inr rfl) : USt G X (.Assign [.Name x pos'] e pos) (uSetL i fs B) := ⟨PS.weak (ps_set hN hi hx he.pe hs hf) fun D σ H ⟨He, S0, P, own, δ, n, r, ok, hf, k⟩ => by
  unfold uSetL at hf
  obtain ⟨d, e, rfl⟩ := Option.map_eq_some_iff.mp hf
  exact ⟨He, S0, P, own, δ, d, ok, e, fun p xs H1 k1 n1 e1 r1 => by
    obtain ⟨own', ok'⟩ := putL_ok ok k1 i n1 e1 r1
    exact k _ H1 own' ok'⟩⟩
/-! ### while -/
theorem us_while (hc : UT G X c tc) (hb : USs G X sts u) (hp : PassesOwn (model X.prog X.w) X.A X.env X.xe := by exact PassesOwn.never) : USt G X (.While c sts [] pos) (uWhile tc u) := ⟨PS.weak (ps_while hp hc.pt hb.ps) fun D σ H ⟨He, S0, P, own, δ, n, r, ok, hf, k⟩ => by
  refine ⟨fun m σ H => ∃ own δ, OK G He H S0 P own σ δ ∧ uWh tc u n m δ = some r, ⟨n, own, δ, ok, hf⟩, ?_⟩
  rintro m σ H ⟨own, δ, ok, hf⟩
  cases m with
  | zero => cases hf
  | succ m =>
    unfold uWh at hf
    split at hf
    · rename_i e
      refine ⟨He, S0, P, own, δ, _, ok, e, fun H1 k1 => ?_⟩
      refine iteT ?_
      refine ⟨fun σ' H' => ∃ own' δ', OK G He H' S0 P own' σ' δ' ∧ uWh tc u n m δ' = some r, fun σ' H' q => ⟨m, Nat.lt_succ_self m, q⟩, ?_⟩
      split at hf
      · rename_i δ' e'
        exact ⟨He, S0, P, own, δ, n, _, ok.keep k1, e', fun σ' H' own' ok' => ⟨own', δ', ok', hf⟩⟩
      · rename_i δ' e'
        exact ⟨He, S0, P, own, δ, n, _, ok.keep k1, e', fun σ' H' own' ok' => ⟨own', δ', ok', hf⟩⟩
      · rename_i δ' e'
        cases hf
        exact ⟨He, S0, P, own, δ, n, _, ok.keep k1, e', k⟩
      · rename_i r' e'
        cases hf
        exact ⟨He, S0, P, own, δ, n, _, ok.keep k1, e', k⟩
      · cases hf
    · rename_i e
      cases hf
      refine ⟨He, S0, P, own, δ, _, ok, e, fun H1 k1 => ?_⟩
      refine iteF ?_
      exact k σ H1 own (ok.keep k1)
    · cases hf⟩
end
end U
end
section
set_option Elab.async false
set_option linter.all false
set_option maxRecDepth 100000
set_option maxHeartbeats 1000000
namespace U
open PySem PySem.Spec L2
/-! ### what is walked -/
structure IW (G : GG) (J : It) (ds : List D) (ps : List (V × D)) : Prop where
  go : ∀ (S : Addr → Prop) i H, PinOk G H S ps → i < ds.length → J.go i H
  yld : ∀ (S : Addr → Prop) i H x H', PinOk G H S ps → i < ds.length → J.yld i H x H' → ∃ d, ds[i]? = some d ∧ Keep H H' ∧ Rep G H' S x d
  stop : ∀ (S : Addr → Prop) i H, PinOk G H S ps → ds.length ≤ i → J.stop i H
def tUI (G : GG) (src : ULf) (B : List Nat) : TI := fun σ H R => ∃ He S0 P own δ ds, OK G He H S0 P own σ δ ∧ src δ = some ds ∧
  ∀ J ps H', Keep H H' → PinOk G H' (AvB S0 own B) ps → IW G J ds ps → R J H'
structure UI (G : GG) (X : Cx) (tg it : Expr) (src : ULf) (B : List Nat) : Prop where
  pi : PI X tg it (tUI G src B)
section
variable {G : GG} {X : Cx}
theorem PI.weak {tg e : Expr} {t t' : TI} (h : PI X tg e t) (w : ∀ σ H Q, t' σ H Q → t σ H Q) : PI X tg e t' := fun pins s σ H Q I hw => h pins s σ H Q I (w _ _ _ hw)
theorem iw_list {a : Addr} {ds : List D} {K : PySem.W.Frag} : IW G (Itl K a) ds [(.ref a, .lst ds)] where
  go := fun S i H p hi => by
    have r : Rep G H S (.ref a) (.lst ds) := p _ (List.mem_singleton.mpr rfl)
    cases r with
    | lst h n r =>
      obtain ⟨v, e, _⟩ := r.get (List.getElem?_eq_getElem hi)
      exact ⟨_, v, SqL.of h, e⟩
  yld := fun S i H x H' p hi ⟨e, y⟩ => by
    subst e
    have r : Rep G H' S (.ref a) (.lst ds) := p _ (List.mem_singleton.mpr rfl)
    cases r with
    | lst h n r =>
      obtain ⟨d, e, q⟩ := r.get' (y _ (SqL.of h))
      exact ⟨d, e, Keep.refl _, q⟩
  stop := fun S i H p hi => by
    have r : Rep G H S (.ref a) (.lst ds) := p _ (List.mem_singleton.mpr rfl)
    cases r with
    | lst h n r => exact ⟨_, SqL.of h, by rw [r.length]; exact hi⟩
def rangeD (lo : Int) (n : Nat) : List D := (List.range n).map fun i => D.int (lo + (i : Nat))
theorem rangeD_length (lo : Int) (n : Nat) : (rangeD lo n).length = n := by unfold rangeD; rw [List.length_map, List.length_range]
theorem rangeD_get {lo : Int} {n i : Nat} (h : i < n) : (rangeD lo n)[i]? = some (.int (lo + (i : Nat))) := by unfold rangeD; rw [List.getElem?_map, List.getElem?_range h]; rfl
theorem iw_range {lo : Int} {n : Nat} : IW G (Itr lo n) (rangeD lo n) [] where
  go := fun S i H p hi => by rw [rangeD_length] at hi; exact hi
  yld := fun S i H x H' p hi ⟨e, y⟩ => by subst e; subst y; rw [rangeD_length] at hi; exact ⟨_, rangeD_get hi, Keep.refl _, .int _⟩
  stop := fun S i H p hi => by rw [rangeD_length] at hi; exact hi
def enumD (ds : List D) : List D := ds.mapIdx fun i d => .tup [.int (i : Nat), d]
theorem iw_enum {a : Addr} {ds : List D} {K : PySem.W.Frag} : IW G (Ite K a) (enumD ds) [(.ref a, .lst ds)] where
  go := fun S i H p hi => by
    unfold enumD at hi; rw [List.length_mapIdx] at hi
    have r : Rep G H S (.ref a) (.lst ds) := p _ (List.mem_singleton.mpr rfl)
    cases r with
    | lst h n r =>
      obtain ⟨v, e, _⟩ := r.get (List.getElem?_eq_getElem hi)
      exact ⟨_, v, SqL.of h, e⟩
  yld := fun S i H x H' p hi ⟨T, y, e1, hT, e2, hy⟩ => by
    subst e1; subst e2
    have r : Rep G H S (.ref a) (.lst ds) := p _ (List.mem_singleton.mpr rfl)
    cases r with
    | lst h n r =>
      obtain ⟨d, e, q⟩ := r.get' (hy _ (SqL.of h))
      exact ⟨.tup [.int (i : Nat), d], by unfold enumD; rw [List.getElem?_mapIdx, e]; rfl, Keep.new hT, .tup upd_same (.cons (.int _) (.cons (q.keep (Keep.new hT)) .nil))⟩
  stop := fun S i H p hi => by
    unfold enumD at hi; rw [List.length_mapIdx] at hi
    have r : Rep G H S (.ref a) (.lst ds) := p _ (List.mem_singleton.mpr rfl)
    cases r with
    | lst h n r => exact ⟨_, SqL.of h, by rw [r.length]; exact hi⟩
def zipD (ds es : List D) : List D := List.zipWith (fun x y => .tup [x, y]) ds es
variable {tg e e2 : Expr} {f : UEf} {fs : ULf} {B : List Nat}
theorem ui_list (h : UE G X e f B) : UI G X tg e (uAs f) B := ⟨PI.weak (pi_list h.pe) fun σ H R ⟨He, S0, P, own, δ, ds, ok, hf, k⟩ => by
  unfold uAs at hf
  split at hf
  · rename_i xs h1
    cases hf
    refine ⟨He, S0, P, own, δ, _, ok, h1, fun v H1 k1 r1 => ?_⟩
    cases r1 with
    | lst h n r => exact ⟨_, rfl, ⟨_, SqL.of h⟩, k _ _ H1 k1 (fun p hp => by rw [List.mem_singleton.mp hp]; exact .lst h n r) iw_list⟩
  · cases hf⟩
def uRange1 (f : ULf) : ULf := fun δ => match f δ with
  | some [.int j] => if decide (j ≤ 1000000) && decide (-1000000 ≤ j) then some (rangeD 0 j.toNat) else none
  | _ => none
theorem ui_range1 {p pos : Pos} (ha : UA G X [e] fs B) (hm : X.mg "range" = none) (hg : L2.Gl X "range" := by rfl) (hs : starEach [e] X.env = [(false, eval e X.env)] := by rfl) : UI G X tg (.Call (.Name "range" p) [e] [] pos) (uRange1 fs) [] := ⟨PI.weak (pi_range1 hg hm ha.pa hs) fun σ H R ⟨He, S0, P, own, δ, ds, ok, hf, k⟩ => by
  unfold uRange1 at hf
  split at hf
  · rename_i j h1
    split at hf
    · rename_i hj
      cases hf
      simp only [Bool.and_eq_true, decide_eq_true_eq] at hj
      refine ⟨He, S0, P, own, δ, _, ok, h1, fun vs H1 k1 r1 => ?_⟩
      cases r1 with
      | cons r rr =>
        cases rr; cases r
        exact ⟨j, rfl, by omega, by omega, k _ [] H1 k1 (fun p hp => by cases hp) iw_range⟩
    · cases hf
  · cases hf⟩
def uEnum (f : ULf) : ULf := fun δ => match f δ with
  | some [.lst ds] => some (enumD ds)
  | _ => none
theorem ui_enum {p pos tpos : Pos} {elts : List Expr} {kk : Nat} (ha : UA G X [e] fs B) (hm : X.mg "enumerate" = none) (hg : L2.Gl X "enumerate" := by rfl) (hs : starEach [e] X.env = [(false, eval e X.env)] := by rfl) :
    UI G X (.Tuple elts kk tpos) (.Call (.Name "enumerate" p) [e] [] pos) (uEnum fs) B := ⟨PI.weak (pi_enum hg hm ha.pa hs) fun σ H R ⟨He, S0, P, own, δ, ds, ok, hf, k⟩ => by
  unfold uEnum at hf
  split at hf
  · rename_i xs h1
    cases hf
    refine ⟨He, S0, P, own, δ, _, ok, h1, fun vs H1 k1 r1 => ?_⟩
    cases r1 with
    | cons r rr =>
      cases rr
      cases r with
      | lst h n r => exact ⟨_, _, rfl, SqL.of h, k _ _ H1 k1 (fun p hp => by rw [List.mem_singleton.mp hp]; exact .lst h n r) iw_enum⟩
  · cases hf⟩
/-! ### targets -/
def tUG (G : GG) (g : UG) : TG := fun v σ H Q => ∃ He S0 P own δ x δ', OK G He H S0 P own σ δ ∧ Rep G H (Av S0 own) v x ∧ g x δ = some δ' ∧ ∀ σ' own', OK G He H S0 P own' σ' δ' → Q σ' H
structure UGt (G : GG) (X : Cx) (tg : Expr) (g : UG) : Prop where
  pg : PG X tg (tUG G g)
theorem PG.weak {tg : Expr} {t t' : TG} (h : PG X tg t) (w : ∀ v σ H Q, t' v σ H Q → t v σ H Q) : PG X tg t' := fun pins s σ H v u Q I r hw => h pins s σ H v u Q I r (w _ _ _ _ hw)
theorem ug_name {i : Nat} {x : Str} {pos : Pos} (hN : X.N.Nodup) (hi : X.N[i]? = some x := by rfl) (hx : Loc X.env.scope x := by first | exact Or.inl rfl | exact Or.inr rfl) (hf : X.fn x = true ∨ X.env.scope.names.lookup x = some .local := by first | exact .inl rfl | exact .inr rfl) :
    UGt G X (.Name x pos) (gVar i) := ⟨PG.weak (pg_name hN hi hx hf) fun v σ H Q ⟨He, S0, P, own, δ, x, δ', ok, r, hg, k⟩ => by
  cases hg
  exact k _ _ (ok.set i (r.mono fun a z _ => av_ownB' z))⟩
def tUGs (G : GG) (is : List Nat) : TGs := fun vs σ H Q => ∃ He S0 P own δ xs δ', OK G He H S0 P own σ δ ∧ Reps G H (Av S0 own) vs xs ∧ gVars is xs δ = some δ' ∧ ∀ σ' own', OK G He H S0 P own' σ' δ' → Q σ' H
structure UGts (G : GG) (X : Cx) (tgs : List Expr) (is : List Nat) : Prop where
  pg : PGs X tgs (tUGs G is)
theorem PGs.weak {tg : List Expr} {t t' : TGs} (h : PGs X tg t) (w : ∀ v σ H Q, t' v σ H Q → t v σ H Q) : PGs X tg t' := fun pins s σ H v u Q I r hw => h pins s σ H v u Q I r (w _ _ _ _ hw)
/-! ### for -/
theorem OK.pins {He H : Hp} {S0 : Addr → Prop} {P P' : List (V × D)} {own : Nat → Addr → Prop} {σ : L2.St} {δ : DS} (ok : OK G He H S0 P own σ δ) (p : PinOk G H (Av S0 own) P') : OK G He H S0 P' own σ δ := ⟨ok.len, ok.kp, ok.tab, ok.s0, ok.ns, ok.val, ok.ow, ok.inj, p⟩
/-- a thing that was not there is avoided by all -/
theorem OK.avoid {He H H' : Hp} {S0 : Addr → Prop} {P : List (V × D)} {own : Nat → Addr → Prop} {σ : L2.St} {δ : DS} {L : Addr} (ok : OK G He H S0 P own σ δ) (hL : H L = none) (k : Keep H H') (hL' : H' L ≠ none) : OK G He H' (fun a => S0 a ∨ a = L) P own σ δ := by
  have av : ∀ a, Av (fun a => S0 a ∨ a = L) own a → H a ≠ none → Av S0 own a := fun a z n => by
    rcases z with (z | z) | z
    · exact .inl z
    · exact absurd hL (by rw [← z]; exact n)
    · exact .inr z
  refine ⟨ok.len, ok.kp.trans k, ok.tab, fun a z => ?_, fun i a e z => ?_, fun i s e => ?_, (ok.keep k).ow, ok.inj, fun q hq => ((ok.pin q hq).mono av).keep k⟩
  · rcases z with z | z
    · exact (ok.keep k).s0 a z
    · rw [z]; exact hL'
  · rcases z with z | z
    · exact ok.ns i a e z
    · exact (ok.ow i a e).2.some (by rw [z]; exact hL)
  · exact (ok.val i s e).imp k rfl (fun _ => Iff.rfl) av
theorem us_for {body : List Stmt} {src : ULf} {g : UG} {u : US} {pos : Pos} (hi : UI G X tg e src B) (hg : UGt G X tg g) (hb : USs G X body u) (hp : PassesOwn (model X.prog X.w) X.A X.env X.xe := by exact PassesOwn.never) (hc : X.calm = true := by rfl)
    (hs : ∀ x, foldedSetIterable e X.env x = pure x := by intro _; rfl) : USt G X (.For tg e body [] pos) (uFor src B g u) := ⟨PS.weak (ps_for hp hc hi.pi hg.pg hb.ps hs) fun D' σ H ⟨He, S0, P, own, δ, n, r, ok, hf, k⟩ => by
  unfold uFor at hf
  split at hf
  · rename_i ds h1
    refine ⟨He, S0, P, own, δ, ds, ok, h1, fun J ps H1 k1 pin w => ?_⟩
    have ok1 : OK G He H1 S0 (ps ++ P) (ownB own B) σ (dem B δ) := ((ok.keep k1).dem B).pins fun q hq => (List.mem_append.mp hq).elim (fun z => (pin q z).mono fun a z _ => av_ownB z) fun z => ((ok.keep k1).dem B).pin q z
    have unp : ∀ {σ' H' own' δ'}, OK G He H' S0 (ps ++ P) own' σ' δ' → OK G He H' S0 P own' σ' δ' := fun q => q.pins fun x hx => q.pin x (List.mem_append_right _ hx)
    have pp : ∀ {σ' H' own' δ'}, OK G He H' S0 (ps ++ P) own' σ' δ' → PinOk G H' (Av S0 own') ps := fun q x hx => q.pin x (List.mem_append_left _ hx)
    refine ⟨fun i m σ H => m = ds.length - i ∧ i ≤ ds.length ∧ ∃ own δ, OK G He H S0 (ps ++ P) own σ δ ∧ uFs g u n (ds.drop i) δ = some r, ⟨ds.length, by omega, Nat.zero_le _, _, _, ok1, hf⟩, ?_⟩
    rintro i m σ H ⟨rfl, hi, own, δ, ok, hf⟩
    by_cases hlt : i < ds.length
    · refine .inr ⟨w.go _ i H (pp ok) hlt, fun σ' H' => ∃ own' δ', OK G He H' S0 (ps ++ P) own' σ' δ' ∧ uFs g u n (ds.drop (i + 1)) δ' = some r, fun σ' H' q => ⟨ds.length - (i + 1), by omega, rfl, hlt, q⟩, fun x H' y => ?_⟩
      obtain ⟨d, e1, k2, rx⟩ := w.yld _ i H x H' (pp ok) hlt y
      rw [List.drop_eq_getElem_cons hlt] at hf
      have e2 : ds[i] = d := by rw [List.getElem?_eq_getElem hlt] at e1; exact Option.some.inj e1
      rw [e2] at hf
      unfold uFs at hf
      split at hf
      · cases hf
      · rename_i δ1 e3
        refine ⟨He, S0, ps ++ P, own, δ, d, δ1, ok.keep k2, rx, e3, fun σ2 own2 ok2 => ?_⟩
        split at hf
        · rename_i δ' e4
          exact ⟨He, S0, ps ++ P, own2, δ1, n, _, ok2, e4, fun σ' H' own' ok' => ⟨own', δ', ok', hf⟩⟩
        · rename_i δ' e4
          exact ⟨He, S0, ps ++ P, own2, δ1, n, _, ok2, e4, fun σ' H' own' ok' => ⟨own', δ', ok', hf⟩⟩
        · rename_i δ' e4
          cases hf
          exact ⟨He, S0, ps ++ P, own2, δ1, n, _, ok2, e4, fun σ' H' own' ok' => k σ' H' own' (unp ok')⟩
        · rename_i r' e4
          cases hf
          exact ⟨He, S0, ps ++ P, own2, δ1, n, _, ok2, e4, k⟩
        · cases hf
    · have e : i = ds.length := by omega
      subst e
      rw [List.drop_length] at hf
      cases hf
      exact .inl ⟨w.stop _ _ H (pp ok) (Nat.le_refl _), k σ H own (unp ok)⟩
  · cases hf⟩
/-! ### comprehensions -/
structure UTs (G : GG) (X : Cx) (ifs : List Expr) (f : UTf) : Prop where
  pt : PTs X ifs (tUT G f)
theorem PTs.weak {e : List Expr} {t t' : TT} (h : PTs X e t) (w : ∀ σ H Q, t' σ H Q → t σ H Q) : PTs X e t' := fun pins s σ H Q I hw => h pins s σ H Q I (w _ _ _ hw)
theorem uts_nil : UTs G X [] uYes := ⟨PTs.weak pts_nil fun σ H Q ⟨He, S0, P, own, δ, b, ok, hf, k⟩ => by cases hf; exact k H (Keep.refl H)⟩
theorem uts_one {c : Expr} {t : UTf} (h : UT G X c t) : UTs G X [c] t := ⟨pts_one h.pt⟩
/-- the raw words of the target: one name, or a pair of names -/
inductive RawG (G : GG) (K : PySem.W.Frag) : TG → UG → List Nat → Prop
  | one (i : Nat) : RawG G K (gName i) (gVar i) [i]
  | two (i j : Nat) : RawG G K (gTup K 2 (gCons (gName i) (gCons (gName j) gNil))) (gTups [i, j]) [i, j]
theorem wipe_set1 {σ : L2.St} {i : Nat} {v : Option V} : wipe ((wipe σ [i]).set i v) [i] = wipe σ [i] := by
  show (((σ.set i none).set i v).set i none) = σ.set i none
  rw [List.set_set, List.set_set]
theorem wipe_set2 {σ : L2.St} {i j : Nat} {v w : Option V} : wipe (((wipe σ [i, j]).set i v).set j w) [i, j] = wipe σ [i, j] := by
  show ((((((σ.set j none).set i none).set i v).set j w).set j none).set i none) = (σ.set j none).set i none
  rw [List.set_set, List.set_set]
  by_cases e : i = j
  · subst e; simp only [List.set_set]
  · rw [List.set_comm _ _ e, List.set_set, List.set_set, List.set_comm _ _ (Ne.symm e)]
/-- what the target leaves -/
theorem RawG.run {K : PySem.W.Frag} {g : TG} {gu : UG} {vs : List Nat} (hr : RawG G K g gu vs) {He H : Hp} {S0 : Addr → Prop} {P : List (V × D)} {own : Nat → Addr → Prop} {σ : L2.St} {δ δ1 : DS} {v : V} {d : D} {R : L2.St → Hp → Prop} (ok : OK G He H S0 P own σ δ) (r : Rep G H (Av S0 own) v d)
    (hg : gu d (wipeD δ vs) = some δ1) (k : ∀ σ2 own2, (∀ j a, own2 j a → own j a ∧ j ∉ vs) → (∀ j a, own j a → j ∉ vs → own2 j a) → wipe σ2 vs = wipe σ vs → OK G He H S0 P own2 σ2 δ1 → R σ2 H) : g v (wipe σ vs) H R := by
  cases hr with
  | one i =>
    cases hg
    have ok1 := ok.wipe1 i none
    refine k _ _ (fun j a e => ?_) (fun j a e hj => ?_) wipe_set1 (ok1.set i (r.mono fun a z _ => av_ownB' (av_ownB' z)))
    · obtain ⟨h1, h2⟩ := ownB_some e
      exact ⟨(ownB_some h2).2, h1⟩
    · exact ⟨hj, hj, e⟩
  | two i j =>
    unfold gTups at hg
    split at hg
    · rename_i xs
      cases r with
      | tup h r =>
        cases r with
        | nil => cases hg
        | cons r1 rr => cases rr with
          | nil => cases hg
          | cons r2 rr => cases rr with
            | cons _ _ => cases hg
            | nil =>
              cases hg
              have ok1 := ((ok.wipe1 j none).wipe1 i none)
              have ok2 := ok1.set i (r1.mono fun a z _ => av_ownB' (av_ownB' (av_ownB' z)))
              have ok3 := ok2.set j (r2.mono fun a z _ => av_ownB' (av_ownB' (av_ownB' (av_ownB' z))))
              refine ⟨_, _, rfl, SqT.of h, rfl, _, _, rfl, _, _, rfl, rfl, k _ _ (fun l a e => ?_) (fun l a e hl => ?_) wipe_set2 ok3⟩
              · obtain ⟨h1, h2⟩ := ownB_some e
                obtain ⟨h3, h4⟩ := ownB_some h2
                obtain ⟨h5, h6⟩ := ownB_some h4
                refine ⟨(ownB_some h6).2, fun m => ?_⟩
                rcases List.mem_cons.mp m with z | z
                · exact h3 (by rw [z]; exact List.mem_singleton.mpr rfl)
                · exact h1 z
              · have n1 : l ∉ [i] := fun m => hl (by rw [List.mem_singleton.mp m]; exact List.mem_cons_self ..)
                have n2 : l ∉ [j] := fun m => hl (List.mem_cons_of_mem _ m)
                exact ⟨n2, n1, n1, n2, e⟩
    · cases hg
theorem lc_read {src : ULf} {g : TG} {gu : UG} {c : UTf} {Be vs : List Nat} (hr : RawG G X.K g gu vs) {σ : L2.St} {H : Hp} {Q : VK} : tUL G (uSm (uLc src B gu c f vs)) (B ++ vs ++ Be) σ H Q → tLc (tUI G src B) g (tUT G c) (tU G f Be) vs σ H Q := fun ⟨He, S0, P, ow, δ, out, ok, hf, k⟩ => by
    obtain ⟨hf, hsz⟩ := uSm_of hf
    unfold uLc at hf
    split at hf
    · rename_i ds h1
      refine ⟨He, S0, P, ow, δ, ds, ok, h1, fun J ps H1 k1 pin w => fun L hL => ?_⟩
      have ok1 := (ok.keep k1).dem B
      have pin1 : PinOk G H1 (Av (fun a => S0 a ∨ a = L) (ownB ow B)) ps := fun q hq => (pin q hq).mono fun a z n => by
        rcases z with (z | z) | z
        · exact .inl z
        · exact absurd hL (by rw [← z]; exact n)
        · exact av_ownB (.inr z)
      refine ⟨fun i m H => m = ds.length - i ∧ i ≤ ds.length ∧ Keep H1 H ∧ ∃ acc o1 o2, H L = some (.lst acc) ∧ Reps G H (fun a => AvB S0 ow (B ++ vs ++ Be) a ∨ a = L) acc o1 ∧ uLcs gu c f (wipeD (dem B δ) vs) (ds.drop i) = some o2 ∧ o1 ++ o2 = out,
        ⟨ds.length, by omega, Nat.zero_le _, Keep.new hL, [], [], out, upd_same, .nil, hf, rfl⟩, ?_⟩
      rintro i m H ⟨rfl, hi, kH, acc, o1, o2, hacc, racc, hf, hout⟩
      have pinH : PinOk G H (Av (fun a => S0 a ∨ a = L) (ownB ow B)) ps := fun q hq => (pin1 q hq).keep kH
      by_cases hlt : i < ds.length
      · refine .inr ⟨w.go _ i H pinH hlt, fun H' => Keep H1 H' ∧ ∃ acc o1 o2, H' L = some (.lst acc) ∧ Reps G H' (fun a => AvB S0 ow (B ++ vs ++ Be) a ∨ a = L) acc o1 ∧ uLcs gu c f (wipeD (dem B δ) vs) (ds.drop (i + 1)) = some o2 ∧ o1 ++ o2 = out,
          fun H' q => ⟨ds.length - (i + 1), by omega, rfl, hlt, q⟩, fun x H' y => ?_⟩
        obtain ⟨d, e1, k2, rx⟩ := w.yld _ i H x H' pinH hlt y
        rw [List.drop_eq_getElem_cons hlt] at hf
        have e2 : ds[i] = d := by rw [List.getElem?_eq_getElem hlt] at e1; exact Option.some.inj e1
        rw [e2] at hf
        unfold uLcs at hf
        split at hf
        · cases hf
        · rename_i δ1 e3
          refine hr.run (ok1.avoid hL (kH.trans k2) (by rw [k2.lst hacc]; simp)) rx e3 fun σ2 own2 ho1 ho2 hw2 ok2 => ⟨hw2, ?_⟩
          have av2 : ∀ a, AvB S0 ow (B ++ vs ++ Be) a → AvB (fun a => S0 a ∨ a = L) own2 Be a := fun a z => z.imp .inl fun ⟨j, hj, e⟩ => ⟨j, fun m => hj (List.mem_append_right _ m), ho2 j a ⟨fun m => hj (List.mem_append_left _ (List.mem_append_left _ m)), e⟩ fun m => hj (List.mem_append_left _ (List.mem_append_right _ m))⟩
          split at hf
          · rename_i e4
            split at hf
            · rename_i y1 ys e5 e6
              cases hf
              refine ⟨He, _, P, own2, δ1, true, ok2, e4, fun H3 k3 => iteT ⟨He, _, P, own2, δ1, y1, ok2.keep k3, e5, fun v H4 k4 r4 => ?_⟩⟩
              have k24 : Keep H H4 := k2.trans (k3.trans k4)
              have hL4 := k24.lst hacc
              have r4' : Rep G H4 (fun a => AvB S0 ow (B ++ vs ++ Be) a ∨ a = L) v y1 := r4.mono fun a z _ => z.elim (av2 a) fun e => .inl (.inr e)
              refine ⟨acc, hL4, ?_, fun b o hb => ?_, acc ++ [v], o1 ++ [y1], ys, upd_same, ?_, e6, by rw [List.append_assoc]; exact hout⟩
              · have e7 := racc.length
                have e8 : out.length = o1.length + (ys.length + 1) := by rw [← hout, List.length_append, List.length_cons]
                exact Nat.lt_of_lt_of_le (show acc.length < out.length by omega) (small_ok hsz)
              · exact (kH.trans k24).wr hL4 hL b o hb
              · exact ((racc.keep k24).snoc r4').wr (.inr rfl) hL4
            · cases hf
          · rename_i e4
            refine ⟨He, _, P, own2, δ1, false, ok2, e4, fun H3 k3 => iteF ⟨kH.trans (k2.trans k3), acc, o1, o2, (k2.trans k3).lst hacc, racc.keep (k2.trans k3), hf, hout⟩⟩
          · cases hf
      · have e : i = ds.length := by omega
        subst e
        rw [List.drop_length] at hf
        cases hf
        rw [List.append_nil] at hout
        subst hout
        exact .inl ⟨w.stop _ _ H pinH (Nat.le_refl _), k L acc H (k1.trans kH) (k1.free hL) hacc racc⟩
    · cases hf
theorem ul_lc {elt : Expr} {ifs : List Expr} {scope : Scope} {own : List (Str × Nat)} {pos : Pos} {src : ULf} {g : TG} {gu : UG} {c : UTf} {Be : List Nat} (hi : UI G X tg e src B) (hr : RawG G X.K g gu (own.map (·.2))) (ok : BlkOk X.N X.env.scope scope own)
    (hg : ∀ (s : Shared) (H : Hp) (C : Addr) (cl : List (Str × Addr)) (fp : List Addr), PG (X.blk s H scope (compEnvC scope cl C X.env) fp) tg g) (ht : ∀ (s : Shared) (H : Hp) (C : Addr) (cl : List (Str × Addr)) (fp : List Addr), UTs G (X.blk s H scope (compEnvC scope cl C X.env) fp) ifs c)
    (he : ∀ (s : Shared) (H : Hp) (C : Addr) (cl : List (Str × Addr)) (fp : List Addr), UE G (X.blk s H scope (compEnvC scope cl C X.env) fp) elt f Be) (hN : X.N.Nodup) (hc : X.calm = true := by rfl) (hs : ∀ x, foldedSetIterable e X.env x = pure x := by intro _; rfl) :
    UL G X (.ListComp elt [⟨tg, e, ifs, 0⟩] scope pos) (uSm (uLc src B gu c f (own.map (·.2)))) (B ++ own.map (·.2) ++ Be) :=
  ⟨PE.weak (pe_lc hc hN hi.pi ok hg (fun s H C cl fp => (ht s H C cl fp).pt) (fun s H C cl fp => (he s H C cl fp).pe) hs) fun σ H Q h => lc_read hr h⟩
/-- name = [..] on one line, the name a plain local -/
theorem us_setLc {i : Nat} {y : Str} {py spos : Pos} {elt : Expr} {ifs : List Expr} {scope : Scope} {own : List (Str × Nat)} {pos : Pos} {src : ULf} {g : TG} {gu : UG} {c : UTf} {Be : List Nat} (hi : UI G X tg e src B) (hr : RawG G X.K g gu (own.map (·.2))) (ok : BlkOk X.N X.env.scope scope own)
    (hg : ∀ (s : Shared) (H : Hp) (C : Addr) (cl : List (Str × Addr)) (fp : List Addr), PG (X.blk s H scope (compEnvC scope cl C X.env) fp) tg g) (ht : ∀ (s : Shared) (H : Hp) (C : Addr) (cl : List (Str × Addr)) (fp : List Addr), UTs G (X.blk s H scope (compEnvC scope cl C X.env) fp) ifs c)
    (he : ∀ (s : Shared) (H : Hp) (C : Addr) (cl : List (Str × Addr)) (fp : List Addr), UE G (X.blk s H scope (compEnvC scope cl C X.env) fp) elt f Be) (hN : X.N.Nodup) (hc : X.calm = true := by rfl) (hs : ∀ x, foldedSetIterable e X.env x = pure x := by intro _; rfl)
    (hy : X.N[i]? = some y := by rfl) (hyl : X.env.scope.names.lookup y = some .local := by rfl) (hsw : swapsWith (.ListComp elt [⟨tg, e, ifs, 0⟩] scope pos) (some (.Name y py)) spos.line X.env = pure true := by exact sw_true rfl rfl rfl rfl) :
    USt G X (.Assign [.Name y py] (.ListComp elt [⟨tg, e, ifs, 0⟩] scope pos) spos) (uSetL i (uSm (uLc src B gu c f (own.map (·.2)))) (B ++ own.map (·.2) ++ Be)) :=
  ⟨PS.weak (ps_setLc hc hN hy hyl hsw hi.pi ok hg (fun s H C cl fp => (ht s H C cl fp).pt) (fun s H C cl fp => (he s H C cl fp).pe) hs) fun D σ H ⟨He, S0, P, ow, δ, n, r, ok, hf, k⟩ => by
    unfold uSetL at hf
    obtain ⟨ds, e1, rfl⟩ := Option.map_eq_some_iff.mp hf
    refine lc_read (Q := fun x H1 => gName i x σ H1 D.nx) hr ⟨He, S0, P, ow, δ, ds, ok, e1, fun p xs H1 k1 n1 e1 r1 => ?_⟩
    obtain ⟨own', ok'⟩ := putL_ok ok k1 i n1 e1 r1
    exact k _ H1 own' ok'⟩
end
end U
end
section
set_option Elab.async false
set_option linter.all false
set_option maxRecDepth 100000
set_option maxHeartbeats 1000000
namespace U
open PySem PySem.Spec L2
section
variable {G : GG} {X : Cx} {a b c e o : Expr} {es : List Expr} {f g h : UEf} {fs gs : ULf} {Ba Bb Bc B : List Nat} {pos : Pos}
/-! ### subscripts -/
theorem ixD_eq (n : Nat) (i : Int) : ixN n i = ixD n i := rfl
theorem atD_rep {H : Hp} {S : Addr → Prop} {vs : List V} {ds : List D} {i : Int} {d : D} (r : Reps G H S vs ds) (h : atD ds i = some d) : ∃ v, atI vs i = some v ∧ Rep G H S v d := by
  unfold atD at h
  obtain ⟨j, e, h⟩ := Option.bind_eq_some_iff.mp h
  obtain ⟨v, h1, h2⟩ := r.get h
  exact ⟨v, by unfold atI; rw [ixD_eq, r.length, e]; exact h1, h2⟩
theorem u_ix (ha : UE G X a f Ba) (hb : UE G X b g Bb) (hs : PlainIx b := by intro _ _; rfl) : UE G X (.Subscript a b pos) (uOp dIx f g) (Ba ++ Bb) := u_op2 (fun _ _ h1 h2 => pe_ix ix_seq h1 h2 hs) ha hb fun x y d h S v u H Q r1 r2 k => by
  unfold dIx at h
  split at h
  · cases r1 with
    | lst hh n rr =>
      cases r2
      obtain ⟨w, h1, h2⟩ := atD_rep rr h
      exact .inl ⟨_, _, _, w, rfl, rfl, SqL.of hh, h1, k w H (Keep.refl H) h2⟩
  · cases r1 with
    | frz hh rr =>
      cases r2
      obtain ⟨w, h1, h2⟩ := atD_rep rr h
      exact .inl ⟨_, _, _, w, rfl, rfl, .inl (.inr ⟨_, hh⟩), h1, k w H (Keep.refl H) h2⟩
  · cases r1 with
    | tup hh rr =>
      cases r2
      obtain ⟨w, h1, h2⟩ := atD_rep rr h
      exact .inr (.inl ⟨_, _, _, w, rfl, rfl, SqT.of hh, h1, k w H (Keep.refl H) h2⟩)
  · cases h
/-! ### slices -/
def tUO (G : GG) (f : UOf) : TO := fun σ H Q => ∃ He S0 P own δ d, OK G He H S0 P own σ δ ∧ f δ = some d ∧ ∀ H', Keep H H' → Q d H'
structure UO (G : GG) (X : Cx) (e : Option Expr) (f : UOf) : Prop where
  po : PO X e (tUO G f)
theorem PO.weak {e : Option Expr} {t t' : TO} (h : PO X e t) (w : ∀ σ H Q, t' σ H Q → t σ H Q) : PO X e t' := fun pins s σ H Q I hw => h pins s σ H Q I (w _ _ _ hw)
theorem uo_none : UO G X none oNone := ⟨PO.weak po_none fun σ H Q ⟨He, S0, P, own, δ, d, ok, hf, k⟩ => by cases hf; exact k H (Keep.refl H)⟩
theorem uo_some (h : UE G X e f B) : UO G X (some e) (oSome f) := ⟨PO.weak (po_some h.pe) fun σ H Q ⟨He, S0, P, own, δ, d, ok, hf, k⟩ => by
  unfold oSome at hf
  split at hf
  · rename_i i e
    cases hf
    exact ⟨He, S0, P, own, δ, _, ok, e, fun v H1 k1 r1 => by cases r1; exact ⟨_, rfl, k H1 k1⟩⟩
  · cases hf⟩
theorem sBd_eq (n d : Nat) (o : Option Int) : HT.sIx n d o = sBd n d o := by cases o <;> rfl
theorem cut_eq (xs : List V) (lo hi : Option Int) : cutV xs lo hi = cutD xs lo hi := by unfold cutV cutD; rw [sBd_eq, sBd_eq]
theorem Reps.cut {H : Hp} {S : Addr → Prop} {vs : List V} {ds : List D} (r : Reps G H S vs ds) (lo hi : Option Int) : Reps G H S (cutD vs lo hi) (cutD ds lo hi) := by
  unfold cutD
  rw [r.length]
  exact (r.drop _).take _
/-- a new list of things that were there -/
theorem new_list {He H H2 : Hp} {S0 : Addr → Prop} {P : List (V × D)} {own : Nat → Addr → Prop} {σ : L2.St} {δ : DS} {vs : List V} {ds : List D} {p : Addr} {Q : VK} (ok : OK G He H S0 P own σ δ) (k2 : Keep H H2) (r : Reps G H2 (AvB S0 own B) vs ds) (hp : H2 p = none)
    (k : ∀ p xs H', Keep H H' → H p = none → H' p = some (.lst xs) → Reps G H' (fun a => AvB S0 own B a ∨ a = p) xs ds → Q (.ref p) H') : Q (.ref p) (upd H2 p (.lst vs)) :=
  k p vs _ (k2.trans (Keep.new hp)) (k2.free hp) upd_same ((r.mono fun a z n => z.elim id fun e => absurd hp (by rw [← e]; exact n)).keep (Keep.new hp))
theorem ul_slice {lo hi : Option Expr} {fl fh : UOf} {p2 : Pos} (ha : UE G X a f Ba) (hl : UO G X lo fl) (hh : UO G X hi fh) : UL G X (.Subscript a (.Slice lo hi none p2) pos) (uCut f fl fh) Ba := ⟨PE.weak (pe_slice sl_list ha.pe hl.po hh.po) fun σ H Q ⟨He, S0, P, own, δ, ds, ok, hf, k⟩ => by
  unfold uCut at hf
  split at hf
  · rename_i xs l u h1 h2 h3
    cases hf
    refine ⟨He, S0, P, own, δ, _, ok, h1, fun v H1 k1 r1 => ⟨He, S0, P, own, δ, _, ok.keep k1, h2, fun H2 k2 => ⟨He, S0, P, own, δ, _, ok.keep (k1.trans k2), h3, fun H3 k3 => ?_⟩⟩⟩
    cases r1 with
    | lst hh n rr =>
      have k23 := k2.trans k3
      refine ⟨_, _, rfl, SqL.of (k23.lst hh), fun p hp => ?_⟩
      rw [cut_eq]
      exact new_list ok (k1.trans k23) ((rr.keep k23).cut l u) hp k
  · cases hf⟩
/-! ### lists put together -/
theorem ul_cat (ha : UE G X a f Ba) (hb : UE G X b g Bb) : UL G X (.BinOp a .Add b pos) (uSm (uCat f g)) (Ba ++ Bb) := ⟨PE.weak (pe_op op_cat ha.pe hb.pe) fun σ H Q ⟨He, S0, P, own, δ, ds, ok, hf, k⟩ => by
  obtain ⟨hf, hz⟩ := uSm_of hf
  unfold uCat at hf
  split at hf
  · rename_i xs ys h1 h2
    cases hf
    refine tU.two ok h1 h2 fun v u H2 k2 r1 r2 => ?_
    cases r1 with
    | lst h1 n1 r1 => cases r2 with
      | lst h2 n2 r2 =>
        refine ⟨_, _, _, _, rfl, rfl, h1, h2, ?_, fun p hp => new_list ok k2 (r1.append r2) hp k⟩
        rw [r1.length, r2.length, ← List.length_append]; exact small_ok hz
  · cases hf⟩
theorem Reps.rep {H : Hp} {S : Addr → Prop} {vs : List V} {ds : List D} (r : Reps G H S vs ds) : ∀ k : Nat, Reps G H S (List.replicate k vs).flatten (List.replicate k ds).flatten
  | 0 => .nil
  | k + 1 => by rw [List.replicate_succ, List.flatten_cons, List.replicate_succ, List.flatten_cons]; exact r.append (Reps.rep r k)
theorem ul_rep (ha : UE G X a f Ba) (hb : UE G X b g Bb) : UL G X (.BinOp a .Mult b pos) (uRep f g) (Ba ++ Bb) := ⟨PE.weak (pe_op op_rep ha.pe hb.pe) fun σ H Q ⟨He, S0, P, own, δ, ds, ok, hf, k⟩ => by
  unfold uRep at hf
  split at hf
  · rename_i xs n h1 h2
    split at hf
    · rename_i hc
      cases hf
      (simp only [Bool.and_eq_true, decide_eq_true_eq] at hc)
      refine tU.two ok h1 h2 fun v u H2 k2 r1 r2 => ?_
      cases r1 with
      | lst h1 n1 r1 =>
        cases r2
        refine ⟨_, _, _, rfl, rfl, h1, by omega, by omega, ?_, fun p hp => new_list ok k2 (r1.rep _) hp k⟩
        rw [r1.length]
        have : xs.length * n.toNat ≤ 10 * 100000 := Nat.mul_le_mul hc.2 (by omega)
        exact Nat.le_trans this (by rw [sizeLine_eq]; decide)
    · cases hf
  · cases hf⟩
/-! ### == -/
mutual
def toP : D → PyData
  | .non => .none
  | .bl b => .bool b
  | .int i => .int i
  | .str x => .str x
  | .lst xs => .list (toPs xs)
  | .frz xs => .list (toPs xs)
  | .tup xs => .tuple (toPs xs)
  | .obj _ _ => .none
  | .dct => .none
  | .ex _ => .none
def toPs : List D → List PyData
  | [] => []
  | x :: xs => toP x :: toPs xs
end
mutual
theorem eqv_toP : ∀ (n m : Nat) (x y : D), nice n x = true → nice m y = true → PyData.eqv (toP x) (toP y) = eqD x y
  | n, m, .lst xs, .lst ys, h1, h2 => by
    cases n with
    | zero => simp [nice] at h1
    | succ n => cases m with
      | zero => simp [nice] at h2
      | succ m =>
        rw [toP, toP, PyData.eqv, eqD]
        exact eqv_toPs n m xs ys (by simpa [nice] using h1) (by simpa [nice] using h2)
  | n, m, .tup xs, .tup ys, h1, h2 => by
    cases n with
    | zero => simp [nice] at h1
    | succ n => cases m with
      | zero => simp [nice] at h2
      | succ m =>
        rw [toP, toP, PyData.eqv, eqD]
        exact eqv_toPs n m xs ys (by simpa [nice] using h1) (by simpa [nice] using h2)
  | _, _, .non, y, _, h2 => by cases y <;> first | (simp [toP, PyData.eqv, eqD]; done) | (simp [nice] at h2)
  | _, _, .bl _, y, _, h2 => by cases y <;> first | (simp [toP, PyData.eqv, eqD]; done) | (simp [nice] at h2)
  | _, _, .int _, y, _, h2 => by cases y <;> first | (simp [toP, PyData.eqv, eqD]; done) | (simp [nice] at h2)
  | _, _, .str _, y, _, h2 => by cases y <;> first | (simp [toP, PyData.eqv, eqD]; done) | (simp [nice] at h2)
  | _, _, .lst _, .non, _, _ => by simp [toP, PyData.eqv, eqD]
  | _, _, .lst _, .bl _, _, _ => by simp [toP, PyData.eqv, eqD]
  | _, _, .lst _, .int _, _, _ => by simp [toP, PyData.eqv, eqD]
  | _, _, .lst _, .str _, _, _ => by simp [toP, PyData.eqv, eqD]
  | _, _, .lst _, .tup _, _, _ => by simp [toP, PyData.eqv, eqD]
  | _, _, .lst _, .obj _ _, _, h2 => by simp [nice] at h2
  | _, _, .lst _, .frz _, _, h2 => by simp [nice] at h2
  | _, _, .lst _, .dct, _, h2 => by simp [nice] at h2
  | _, _, .lst _, .ex _, _, h2 => by simp [nice] at h2
  | _, _, .tup _, .non, _, _ => by simp [toP, PyData.eqv, eqD]
  | _, _, .tup _, .bl _, _, _ => by simp [toP, PyData.eqv, eqD]
  | _, _, .tup _, .int _, _, _ => by simp [toP, PyData.eqv, eqD]
  | _, _, .tup _, .str _, _, _ => by simp [toP, PyData.eqv, eqD]
  | _, _, .tup _, .lst _, _, _ => by simp [toP, PyData.eqv, eqD]
  | _, _, .tup _, .obj _ _, _, h2 => by simp [nice] at h2
  | _, _, .tup _, .frz _, _, h2 => by simp [nice] at h2
  | _, _, .tup _, .dct, _, h2 => by simp [nice] at h2
  | _, _, .tup _, .ex _, _, h2 => by simp [nice] at h2
  | _, _, .obj _ _, _, h1, _ => by simp [nice] at h1
  | _, _, .frz _, _, h1, _ => by simp [nice] at h1
  | _, _, .dct, _, h1, _ => by simp [nice] at h1
  | _, _, .ex _, _, h1, _ => by simp [nice] at h1
theorem eqv_toPs : ∀ (n m : Nat) (xs ys : List D), (∀ x ∈ xs, nice n x = true) → (∀ x ∈ ys, nice m x = true) → PyData.eqvAll (toPs xs) (toPs ys) = eqDs xs ys
  | _, _, [], [], _, _ => by simp [toPs, PyData.eqvAll, eqDs]
  | _, _, [], _ :: _, _, _ => by simp [toPs, PyData.eqvAll, eqDs]
  | _, _, _ :: _, [], _, _ => by simp [toPs, PyData.eqvAll, eqDs]
  | n, m, x :: xs, y :: ys, h1, h2 => by
    rw [toPs, toPs, PyData.eqvAll, eqDs, eqv_toP n m x y (h1 x (List.mem_cons_self ..)) (h2 y (List.mem_cons_self ..)), eqv_toPs n m xs ys (fun z hz => h1 z (List.mem_cons_of_mem _ hz)) (fun z hz => h2 z (List.mem_cons_of_mem _ hz))]
end
theorem strOk_nice {x : Str} (h : strNice x = true) : PyData.strOk x = true := by
  unfold strNice at h
  simp only [Bool.or_eq_true, decide_eq_true_eq] at h
  rcases h with rfl | rfl <;> decide +kernel
mutual
theorem lay_toP : ∀ (n : Nat) (x : D), nice n x = true → PyData.canLay0 (toP x) = true ∧ PyData.depth (toP x) ≤ n
  | _, .non, _ => by simp [toP, PyData.canLay0, PyData.depth]
  | _, .bl _, _ => by simp [toP, PyData.canLay0, PyData.depth]
  | _, .int _, _ => by simp [toP, PyData.canLay0, PyData.depth]
  | _, .str x, h => by
    have h' : strNice x = true := by simpa [nice] using h
    simp [toP, PyData.canLay0, PyData.depth, strOk_nice h']
  | n, .lst xs, h => by
    cases n with
    | zero => simp [nice] at h
    | succ n =>
      obtain ⟨h1, h2⟩ := lay_toPs n xs (by simpa [nice] using h)
      rw [toP]
      exact ⟨by rw [PyData.canLay0]; exact h1, by rw [PyData.depth]; omega⟩
  | n, .tup xs, h => by
    cases n with
    | zero => simp [nice] at h
    | succ n =>
      obtain ⟨h1, h2⟩ := lay_toPs n xs (by simpa [nice] using h)
      rw [toP]
      exact ⟨by rw [PyData.canLay0]; exact h1, by rw [PyData.depth]; omega⟩
  | _, .obj _ _, h => by simp [nice] at h
  | _, .frz _, h => by simp [nice] at h
  | _, .dct, h => by simp [nice] at h
  | _, .ex _, h => by simp [nice] at h
theorem lay_toPs : ∀ (n : Nat) (xs : List D), (∀ x ∈ xs, nice n x = true) → PyData.canLayAll0 (toPs xs) = true ∧ PyData.depthAll (toPs xs) ≤ n
  | _, [], _ => by simp [toPs, PyData.canLayAll0, PyData.depthAll]
  | n, x :: xs, h => by
    obtain ⟨h1, h2⟩ := lay_toP n x (h x (List.mem_cons_self ..))
    obtain ⟨h3, h4⟩ := lay_toPs n xs fun z hz => h z (List.mem_cons_of_mem _ hz)
    rw [toPs, PyData.canLayAll0, PyData.depthAll, h1, h3]
    exact ⟨rfl, by omega⟩
end
mutual
theorem Rep.dp {K : PySem.W.Frag} {H : Hp} {S : Addr → Prop} : ∀ {v : V} {d : D} (n : Nat), Rep G H S v d → nice n d = true → Dp K H v (toP d)
  | _, _, _, .non, _ => by rw [toP]; exact .non
  | _, _, _, .bl b, _ => by rw [toP]; exact .bl b
  | _, _, _, .int i, _ => by rw [toP]; exact .int i
  | _, _, _, .str x, _ => by rw [toP]; exact .str x
  | _, _, n, .lst h _ r, hn => by
    cases n with
    | zero => simp [nice] at hn
    | succ n => rw [toP]; exact .lst (SqL.of h) (Reps.dp n r (by simpa [nice] using hn))
  | _, _, n, .tup h r, hn => by
    cases n with
    | zero => simp [nice] at hn
    | succ n => rw [toP]; exact .tup (SqT.of h) (Reps.dp n r (by simpa [nice] using hn))
  | _, _, _, .frz _ _, hn => by simp [nice] at hn
  | _, _, _, .obj _ _ _ _, hn => by simp [nice] at hn
  | _, _, _, .dct _, hn => by simp [nice] at hn
  | _, _, _, .ex _ _, hn => by simp [nice] at hn
theorem Reps.dp {K : PySem.W.Frag} {H : Hp} {S : Addr → Prop} : ∀ {vs : List V} {ds : List D} (n : Nat), Reps G H S vs ds → (∀ x ∈ ds, nice n x = true) → DpAll K H vs (toPs ds)
  | _, _, _, .nil, _ => by rw [toPs]; exact .nil
  | _, _, n, .cons h t, hn => by rw [toPs]; exact .cons (Rep.dp n h (hn _ (List.mem_cons_self ..))) (Reps.dp n t fun z hz => hn z (List.mem_cons_of_mem _ hz))
end
theorem shaped_nice {x : D} (h : nice 8 x = true) : SeqAt.shaped (toP x) = true := by
  obtain ⟨h1, h2⟩ := lay_toP 8 x h
  unfold SeqAt.shaped
  rw [h1, Bool.true_and]
  (exact decide_eq_true (by omega))
theorem ho_eq : ∀ x y d, dEq x y = some d → ∀ (S : Addr → Prop) v u H (Q : VK), Rep G H S v x → Rep G H S u y → (∀ w H', Keep H H' → Rep G H' S w d → Q w H') → rEqD X.K v u H Q := by
  intro x y d h S v u H Q r1 r2 k
  unfold dEq at h
  split at h
  · rename_i hc
    (simp only [Bool.and_eq_true] at hc)
    cases h
    exact ⟨_, _, r1.dp 8 hc.1, r2.dp 8 hc.2, shaped_nice hc.1, shaped_nice hc.2, by rw [eqv_toP 8 8 x y hc.1 hc.2]; exact k _ H (Keep.refl H) (.bl _)⟩
  · cases h
theorem ho_ne : ∀ x y d, dNe x y = some d → ∀ (S : Addr → Prop) v u H (Q : VK), Rep G H S v x → Rep G H S u y → (∀ w H', Keep H H' → Rep G H' S w d → Q w H') → rNeD X.K v u H Q := by
  intro x y d h S v u H Q r1 r2 k
  unfold dNe at h
  split at h
  · rename_i hc
    (simp only [Bool.and_eq_true] at hc)
    cases h
    exact ⟨_, _, r1.dp 8 hc.1, r2.dp 8 hc.2, shaped_nice hc.1, shaped_nice hc.2, by rw [eqv_toP 8 8 x y hc.1 hc.2]; exact k _ H (Keep.refl H) (.bl _)⟩
  · cases h
theorem u_eq {k : Nat} (hr : Room k X.A) (ha : UE G X a f Ba) (hb : UE G X b g Bb) : UE G X (.Compare a [.Eq] [b] pos) (uOp dEq f g) (Ba ++ Bb) := u_op2 (fun _ _ h1 h2 => pe_cmpR (op_eqD hr.units) h1 h2 (nomark _)) ha hb ho_eq
theorem ut_eq {k : Nat} (hr : Room k X.A) (ha : UE G X a f Ba) (hb : UE G X b g Bb) : UT G X (.Compare a [.Eq] [b] pos) (uB (uOp dEq f g)) := ut_op2 (fun _ _ h1 h2 => pt_cmpR (op_eqD hr.units) h1 h2 (nomark _)) ha hb ho_eq
theorem ut_ne {k : Nat} (hr : Room k X.A) (ha : UE G X a f Ba) (hb : UE G X b g Bb) : UT G X (.Compare a [.NotEq] [b] pos) (uB (uOp dNe f g)) := ut_op2 (fun _ _ h1 h2 => pt_cmpR (op_neD hr.units) h1 h2 (nomark _)) ha hb ho_ne
end
end U
end
section
set_option Elab.async false
set_option linter.all false
set_option maxRecDepth 100000
set_option maxHeartbeats 1000000
namespace U
open PySem PySem.Spec L2
section
variable {G : GG} {X : Cx} {a b c e o : Expr} {es : List Expr} {f g h : UEf} {fs gs : ULf} {Ba Bb Bc B : List Nat} {pos : Pos}
/-! ### in -/
theorem rep_flat {H : Hp} {S : Addr → Prop} {v : V} {d : D} (r : Rep G H S v d) (h : d.flat = true) : flatV v = true := by cases r <;> first | rfl | cases h
theorem reps_flat {H : Hp} {S : Addr → Prop} : ∀ {vs : List V} {ds : List D}, Reps G H S vs ds → flats ds = true → vs.all flatV = true
  | _, _, .nil, _ => rfl
  | _, _, .cons h t, f => by
    have f' := Bool.and_eq_true_iff.mp (show (D.flat _ && U.flats _) = true from f)
    rw [List.all_cons, rep_flat h f'.1, reps_flat t f'.2]; rfl
theorem rep_eqV {H H' : Hp} {S S' : Addr → Prop} {v u : V} {x y : D} (r : Rep G H S v x) (q : Rep G H' S' u y) (hx : x.flat = true) (hy : y.flat = true) : eqV v u = eqD x y := by
  cases r <;> first | (cases hx; done) | (cases q <;> first | (cases hy; done) | (simp [eqV, eqD]))
theorem reps_inV {H H' : Hp} {S S' : Addr → Prop} {u : V} {y : D} (q : Rep G H' S' u y) (hy : y.flat = true) : ∀ {vs : List V} {ds : List D}, Reps G H S vs ds → flats ds = true → inV u vs = ds.any fun d => eqD d y
  | _, _, .nil, _ => rfl
  | _, _, .cons h t, f => by
    have f' := Bool.and_eq_true_iff.mp (show (D.flat _ && U.flats _) = true from f)
    have ih := reps_inV q hy t f'.2
    unfold inV at ih ⊢
    rw [List.any_cons, List.any_cons, ih, rep_eqV h q f'.1 hy]
theorem ho_in {neg : Bool} {op : D → D → Option D} (hop : ∀ x y d, op x y = some d → ∃ b, dIn x y = some (.bl b) ∧ d = .bl (if neg then !b else b)) : ∀ x y d, op x y = some d → ∀ (S : Addr → Prop) v u H (Q : VK), Rep G H S v x → Rep G H S u y → (∀ w H', Keep H H' → Rep G H' S w d → Q w H') → rIn X.K neg v u H Q := by
  intro x y d h S v u H Q r1 r2 k
  obtain ⟨bb, h', e'⟩ := hop x y d h
  clear h
  subst e'
  have h := h'
  clear h'
  unfold dIn at h
  split at h
  · split at h
    · rename_i hc
      (simp only [Bool.and_eq_true] at hc)
      cases h
      cases r2 with
      | lst hh n rr => exact ⟨_, _, rfl, .inl (SqL.of hh), rep_flat r1 hc.1, reps_flat rr hc.2, by rw [reps_inV r1 hc.1 rr hc.2]; exact k _ H (Keep.refl H) (.bl _)⟩
    · cases h
  · split at h
    · rename_i hc
      (simp only [Bool.and_eq_true] at hc)
      cases h
      cases r2 with
      | tup hh rr => exact ⟨_, _, rfl, .inr (SqT.of hh), rep_flat r1 hc.1, reps_flat rr hc.2, by rw [reps_inV r1 hc.1 rr hc.2]; exact k _ H (Keep.refl H) (.bl _)⟩
    · cases h
  · cases h
theorem dIn_bl {x y d : D} (h : dIn x y = some d) : ∃ b, d = .bl b := by
  unfold dIn at h
  split at h
  · split at h
    · cases h; exact ⟨_, rfl⟩
    · cases h
  · split at h
    · cases h; exact ⟨_, rfl⟩
    · cases h
  · cases h
theorem hin_pos : ∀ x y d, dIn x y = some d → ∃ b, dIn x y = some (.bl b) ∧ d = .bl (if false then !b else b) := fun x y d h => by
  obtain ⟨b, rfl⟩ := dIn_bl h
  exact ⟨b, h, rfl⟩
theorem ut_in (ha : UE G X a f Ba) (hb : UE G X b g Bb) (hm : behindInMarks .In b = false := by rfl) : UT G X (.Compare a [.In] [b] pos) (uB (uOp dIn f g)) := ut_op2 (fun _ _ h1 h2 => pt_cmpR op_in_seq h1 h2 hm) ha hb (ho_in hin_pos)
/-! ### built-ins -/
theorem u_fn {r : List V → Hp → VK → Prop} {op : List D → Option D} (hp : ∀ t, PA X es t → PE X e (tCB r t)) (ha : UA G X es fs B) (ho : ∀ ds d, op ds = some d → ∀ (S : Addr → Prop) vs H (Q : VK), Reps G H S vs ds → (∀ w H', Keep H H' → Rep G H' S w d → Q w H') → r vs H Q) : UE G X e (uFn op fs) B :=
  ⟨PE.weak (hp _ ha.pa) fun σ H Q ⟨He, S0, P, own, δ, d, ok, hf, k⟩ => by
    unfold uFn at hf
    split at hf
    · rename_i ds h1
      exact ⟨He, S0, P, own, δ, ds, ok, h1, fun vs H1 k1 r1 => ho ds d hf _ vs H1 Q r1 fun w H' k' q => k w H' (k1.trans k') q⟩
    · cases hf⟩
theorem ul_fn {r : List V → Hp → VK → Prop} {op : List D → Option (List D)} (hp : ∀ t, PA X es t → PE X e (tCB r t)) (ha : UA G X es fs B)
    (ho : ∀ ds d, op ds = some d → ∀ (S : Addr → Prop) vs H (Q : VK), Reps G H S vs ds → (∀ p xs, H p = none → Reps G H S xs d → Q (.ref p) (upd H p (.lst xs))) → r vs H Q) : UL G X e (uFnL op fs) B :=
  ⟨PE.weak (hp _ ha.pa) fun σ H Q ⟨He, S0, P, own, δ, d, ok, hf, k⟩ => by
    unfold uFnL at hf
    split at hf
    · rename_i ds h1
      exact ⟨He, S0, P, own, δ, ds, ok, h1, fun vs H1 k1 r1 => ho ds d hf _ vs H1 Q r1 fun p xs hp q => new_list ok k1 q hp k⟩
    · cases hf⟩
section
variable {p : Pos} (hst : starEach (e :: es) X.env = (false, eval e X.env) :: starEach es X.env) (hpl : (backTo pos (starEach es X.env)).any (·.1) = false)
theorem u_len (ha : UA G X [e] fs B) (hm : X.mg "len" = none) (hg : L2.Gl X "len" := by rfl) (hst : starEach [e] X.env = (false, eval e X.env) :: starEach [] X.env := by rfl) (hpl : (backTo pos (starEach [] X.env)).any (·.1) = false := by rfl) : UE G X (.Call (.Name "len" p) [e] [] pos) (uFn bLen fs) B :=
  u_fn (fun _ h => pe_callB call_len hg hm PySem.boot_len h (by decide) (by decide) hst hpl) ha fun ds d h S vs H Q r k => by
    unfold bLen at h
    split at h
    · cases h; cases r with
      | cons r1 rr => cases rr; cases r1 with
        | lst hh n r => exact ⟨_, _, rfl, .inl ⟨_, SqL.of hh, r.length.symm⟩, k _ H (Keep.refl H) (.int _)⟩
    · cases h; cases r with
      | cons r1 rr => cases rr; cases r1 with
        | frz hh r => exact ⟨_, _, rfl, .inl ⟨_, .inl (.inr ⟨_, hh⟩), r.length.symm⟩, k _ H (Keep.refl H) (.int _)⟩
    · cases h; cases r with
      | cons r1 rr => cases rr; cases r1 with
        | tup hh r => exact ⟨_, _, rfl, .inr ⟨_, SqT.of hh, r.length.symm⟩, k _ H (Keep.refl H) (.int _)⟩
    · cases h
theorem u_abs (ha : UA G X [e] fs B) (hm : X.mg "abs" = none) (hg : L2.Gl X "abs" := by rfl) (hst : starEach [e] X.env = (false, eval e X.env) :: starEach [] X.env := by rfl) (hpl : (backTo pos (starEach [] X.env)).any (·.1) = false := by rfl) : UE G X (.Call (.Name "abs" p) [e] [] pos) (uFn bAbs fs) B :=
  u_fn (fun _ h => pe_callB call_abs hg hm (by decide +kernel) h (by decide) (by decide) hst hpl) ha fun ds d h S vs H Q r k => by
    unfold bAbs at h
    split at h
    · cases h; cases r with
      | cons r1 rr => cases rr; cases r1; exact ⟨_, rfl, k _ H (Keep.refl H) (.int _)⟩
    · cases h
theorem intsD_of : ∀ {ds : List D} {ns : List Int}, intsD ds = some ns → ds = ns.map D.int
  | [], ns, h => by cases h; rfl
  | d :: ds, ns, h => by
    cases d with
    | int i =>
      unfold intsD at h
      obtain ⟨ms, e, rfl⟩ := Option.map_eq_some_iff.mp h
      rw [intsD_of e]; rfl
    | _ => cases h
theorem boolsD_of : ∀ {ds : List D} {ns : List Bool}, boolsD ds = some ns → ds = ns.map D.bl
  | [], ns, h => by cases h; rfl
  | d :: ds, ns, h => by
    cases d with
    | bl i =>
      unfold boolsD at h
      obtain ⟨ms, e, rfl⟩ := Option.map_eq_some_iff.mp h
      rw [boolsD_of e]; rfl
    | _ => cases h
theorem Reps.bools' {H : Hp} {S : Addr → Prop} : ∀ {vs : List V} (ns : List Bool), Reps G H S vs (ns.map D.bl) → vs = ns.map V.bl
  | _, [], .nil => rfl
  | _, n :: ns, .cons (.bl _) t => by rw [Reps.bools' ns t]; rfl
theorem maxI_mem : ∀ (x : Int) (xs : List Int), maxI (x :: xs) ∈ x :: xs
  | x, [] => List.mem_singleton.mpr rfl
  | x, y :: ys => by
    have ih := maxI_mem y ys
    show max x (maxI (y :: ys)) ∈ _
    by_cases h : x ≤ maxI (y :: ys)
    · rw [Int.max_eq_right h]; exact List.mem_cons_of_mem _ ih
    · rw [Int.max_eq_left (by omega)]; exact List.mem_cons_self ..
theorem maxI_ge : ∀ (xs : List Int) (y : Int), y ∈ xs → y ≤ maxI xs
  | [], y, h => by cases h
  | [x], y, h => by rw [List.mem_singleton.mp h]; exact Int.le_refl _
  | x :: z :: zs, y, h => by
    show y ≤ max x (maxI (z :: zs))
    (rcases List.mem_cons.mp h with rfl | h)
    · exact Int.le_max_left ..
    · exact Int.le_trans (maxI_ge (z :: zs) y h) (Int.le_max_right ..)
theorem u_max (ha : UA G X [e] fs B) (hm : X.mg "max" = none) (hg : L2.Gl X "max" := by rfl) (hc : X.calm = true := by rfl) (hst : starEach [e] X.env = (false, eval e X.env) :: starEach [] X.env := by rfl) (hpl : (backTo pos (starEach [] X.env)).any (·.1) = false := by rfl) : UE G X (.Call (.Name "max" p) [e] [] pos) (uFn bMax fs) B :=
  u_fn (fun _ h => pe_callB (cr_max hc) hg hm (by decide +kernel) h (by decide) (by decide) hst hpl) ha fun ds d h S vs H Q r k => by
    unfold bMax at h
    split at h
    · split at h
      · rename_i n ns e
        cases h
        cases r with
        | cons r1 rr => cases rr; cases r1 with
          | lst hh _ r =>
            rw [intsD_of e] at r
            rw [r.ints'] at hh
            refine ⟨_, n :: ns, rfl, SqL.of hh, by simp, fun m h1 h2 => ?_⟩
            have : m = maxI (n :: ns) := Int.le_antisymm (maxI_ge _ _ h1) (h2 _ (maxI_mem n ns))
            rw [this]
            exact k _ H (Keep.refl H) (.int _)
      · cases h
    · cases h
theorem u_all (ha : UA G X [e] fs B) (hm : X.mg "all" = none) (hg : L2.Gl X "all" := by rfl) (hc : X.calm = true := by rfl) (hst : starEach [e] X.env = (false, eval e X.env) :: starEach [] X.env := by rfl) (hpl : (backTo pos (starEach [] X.env)).any (·.1) = false := by rfl) : UE G X (.Call (.Name "all" p) [e] [] pos) (uFn bAll fs) B :=
  u_fn (fun _ h => pe_callB (cr_all hc) hg hm (by decide +kernel) h (by decide) (by decide) hst hpl) ha fun ds d h S vs H Q r k => by
    unfold bAll at h
    split at h
    · obtain ⟨ns, e, rfl⟩ := Option.map_eq_some_iff.mp h
      cases r with
      | cons r1 rr => cases rr; cases r1 with
        | lst hh n r =>
          rw [boolsD_of e] at r
          rw [r.bools'] at hh
          exact ⟨_, ns, rfl, SqL.of hh, k _ H (Keep.refl H) (.bl _)⟩
    · cases h
theorem ul_list (ha : UA G X [e] fs B) (hm : X.mg "list" = none) (hg : L2.Gl X "list" := by rfl) (hst : starEach [e] X.env = (false, eval e X.env) :: starEach [] X.env := by rfl) (hpl : (backTo pos (starEach [] X.env)).any (·.1) = false := by rfl) : UL G X (.Call (.Name "list" p) [e] [] pos) (uFnL bList fs) B :=
  ul_fn (fun _ h => pe_callTy call_list_of hg hm (by decide +kernel) h (by decide) (by decide) hst hpl) ha fun ds d h S vs H Q r k => by
    unfold bList at h
    split at h
    · cases h; cases r with
      | cons r1 rr => cases rr; cases r1 with
        | lst hh n r => exact ⟨_, _, rfl, .inl (SqL.of hh), fun l hl => k l _ hl r⟩
    · cases h; cases r with
      | cons r1 rr => cases rr; cases r1 with
        | tup hh r => exact ⟨_, _, rfl, .inr (SqT.of hh), fun l hl => k l _ hl r⟩
    · cases h
end
end
end U
end
section
set_option Elab.async false
set_option linter.all false
set_option maxRecDepth 100000
set_option maxHeartbeats 1000000
namespace U
open PySem PySem.Spec L2
section
variable {G : GG} {X : Cx} {a b c e o : Expr} {es : List Expr} {f g h : UEf} {fs gs : ULf} {Ba Bb Bc B : List Nat} {pos : Pos}
theorem own1_of {δ : DS} {i : Nat} {xs : List D} (h : own1 δ i = some xs) : δ[i]? = some (some (.ol xs)) := by
  unfold own1 at h
  split at h
  · cases h; assumption
  · cases h
/-- the state in which a value may be put into a list of the name's own -/
theorem dem_if {He H : Hp} {S0 : Addr → Prop} {P : List (V × D)} {own : Nat → Addr → Prop} {σ : L2.St} {δ : DS} {v : V} {d : D} (ok : OK G He H S0 P own σ δ) (r : Rep G H (AvB S0 own B) v d) :
    ∃ own', OK G He H S0 P own' σ (if d.flat then δ else dem B δ) ∧ Rep G H (Av S0 own') v d := by
  split
  · rename_i hf; exact ⟨own, ok, r.flat hf _ _⟩
  · exact ⟨_, ok.dem B, r.mono fun a z _ => av_ownB z⟩
/-! ### x.append(e) -/
theorem us_app {i : Nat} {x : Str} {px apos cpos : Pos} (he : UE G X e f B) (hN : X.N[i]? = some x := by rfl) (hv : Vis X.env.scope x := by first | exact Or.inl rfl | exact Or.inr (Or.inl rfl) | exact Or.inr (Or.inr rfl)) (hd : (x == ("__debug__" : Str)) = false := by decide)
    (hcd : (x == ("__classdict__" : Str)) = false := by decide) (hbase : attributeBase (.Name x px) "append" X.env (eval (.Name x px) X.env) = eval (.Name x px) X.env := by rfl)
    (hfew : ((backTo cpos (starEach [e] X.env)).all (fun x => !x.1) && (backToKw cpos (keywordEach [] X.env)).all (fun x => x.1.isSome)
      && decide (([e] : List Expr).length + ([] : List Keyword).length + (if ([] : List Keyword).isEmpty then 0 else 1) < 30)) = true := by rfl)
    (hline : (apos.endLine == cpos.line) = true := by rfl) (hst : starEach [e] X.env = (false, eval e X.env) :: starEach [] X.env := by rfl) (hpl : (backTo cpos (starEach [] X.env)).any (·.1) = false := by rfl)
    (hs : swapsWith (.Call (.Attribute (.Name x px) "append" apos) [e] [] cpos) none pos.line X.env = pure false := by rfl) :
    USt G X (.Expr (.Call (.Attribute (.Name x px) "append" apos) [e] [] cpos) pos) (uApp i f B) :=
  ⟨PS.weak (ps_expr (pe_bm PySem.F.plainAttrs_list PySem.F.slot_list_append PySem.F.type_list_append mt_append (pe_var hN hv hd hcd) (pa_cons he.pe pa_nil hst) hbase hfew hline hst hpl) hs) fun D' σ H ⟨He, S0, P, own, δ, n, r, ok, hf, k⟩ => by
    unfold uApp at hf
    split at hf
    · cases hf
    · rename_i d e1
      split at hf
      · rename_i xs e2
        split at hf
        · rename_i hz
          cases hf
          -- the name holds a list
          have e2' := own1_of e2
          have hv : ∃ p zs, σ[i]? = some (some (.ref p)) ∧ H p = some (.lst zs) := by
            by_cases hfl : d.flat = true
            · rw [if_pos hfl] at e2'
              obtain ⟨p, zs, h1, h2, h3, h4⟩ := ok.val i _ e2'
              exact ⟨p, zs, h1, h3⟩
            · rw [if_neg hfl] at e2'
              obtain ⟨p, zs, h1, h2, h3, h4⟩ := (ok.dem B).val i _ e2'
              exact ⟨p, zs, h1, h3⟩
          obtain ⟨p, zs, h1, h3⟩ := hv
          refine ⟨_, h1, .inl ⟨rfl, zs, SqL.of h3⟩, He, S0, P, own, δ, d, ok, e1, fun v H1 k1 r1 => ?_⟩
          obtain ⟨own', ok', r'⟩ := dem_if (ok.keep k1) r1
          obtain ⟨q, ys, g1, g2, g3, g4⟩ := ok'.val i _ e2'
          rw [h1] at g1; cases g1
          refine ⟨p, ys, v, rfl, rfl, g3, ?_, k σ _ own' (ok'.write e2' ((g2 _).mpr rfl) g3 (g4.snoc r'))⟩
          rw [g4.length]
          exact Nat.lt_of_lt_of_le hz (by rw [sizeLine_eq]; decide)
        · cases hf
      · cases hf⟩
/-! ### x[g] = e -/
theorem us_putIx {i : Nat} {x : Str} {px spos : Pos} (he : UE G X e f B) (hg : UE G X b g Bb) (hN : X.N[i]? = some x := by rfl) (hv : Vis X.env.scope x := by first | exact Or.inl rfl | exact Or.inr (Or.inl rfl) | exact Or.inr (Or.inr rfl)) (hd : (x == ("__debug__" : Str)) = false := by decide)
    (hcd : (x == ("__classdict__" : Str)) = false := by decide)
    (ha : ∀ v, assign (.Subscript (.Name x px) b spos) X.env v = (do
      let ov ← holding [v] (eval (.Name x px) X.env)
      let iv ← holding [v, ov] (eval b X.env)
      standAt spos
      holding [v, ov, iv] (setItem ov iv v)
      release [v, ov, iv] []) := by intro _; rfl) (hs : swapsWithSole [.Subscript (.Name x px) b spos] e pos.line X.env = pure false := by rfl) (hw : swappedStores [.Subscript (.Name x px) b spos] e X.env = pure none := by rfl)
    (h1 : (assignEach [.Subscript (.Name x px) b spos] X.env).map (·.2) = [assign (.Subscript (.Name x px) b spos) X.env] := by rfl) : USt G X (.Assign [.Subscript (.Name x px) b spos] e pos) (uPutIx i g f B) :=
  ⟨PS.weak (ps_asg he.pe (pg_sub (pe_var hN hv hd hcd) hg.pe set_list ha) hs hw h1) fun D' σ H ⟨He, S0, P, own, δ, n, r, ok, hf, k⟩ => by
    unfold uPutIx at hf
    split at hf
    · rename_i d kk e1 e3
      split at hf
      · rename_i xs e2
        split at hf
        · rename_i j ej
          cases hf
          have e2' := own1_of e2
          refine ⟨He, S0, P, own, δ, d, ok, e1, fun v H1 k1 r1 => ?_⟩
          obtain ⟨own', ok', r'⟩ := dem_if (ok.keep k1) r1
          obtain ⟨q, ys, g1, g2, g3, g4⟩ := ok'.val i _ e2'
          refine ⟨_, g1, He, S0, P, own, δ, _, ok.keep k1, e3, fun u H2 k2 r2 => ?_⟩
          cases r2
          have ok2 := ok'.keep k2
          refine ⟨q, ys, kk, j, rfl, rfl, k2.lst g3, by rw [ixD_eq, g4.length]; exact ej, k σ _ own' (ok2.write e2' ((g2 _).mpr rfl) (k2.lst g3) ((g4.keep k2).set j (r'.keep k2)))⟩
        · cases hf
      · cases hf
    · cases hf⟩
/-! ### x op= e -/
/-! ### several names at once -/
/-- a value or a new list, as it comes -/
inductive UXe (G : GG) (X : Cx) (e : Expr) : UX → Prop
  | e {f : UEf} {B : List Nat} (h : UE G X e f B) : UXe G X e (.e f B)
  | l {f : ULf} {B : List Nat} (h : UL G X e f B) : UXe G X e (.l f B)
def tUX (G : GG) : UX → TE
  | .e f B => tU G f B
  | .l f B => tUL G f B
theorem UXe.pe {x : UX} (h : UXe G X e x) : PE X e (tUX G x) := by
  cases h with
  | e h => exact h.pe
  | l h => exact h.pe
theorem put_ok2 {He H : Hp} {S0 : Addr → Prop} {P : List (V × D)} {own : Nat → Addr → Prop} {σ : L2.St} {δ : DS} {v : V} {d : D} (ok : OK G He H S0 P own σ δ) (i : Nat) (r : Rep G H (AvB S0 own B) v d) : ∃ own', (∀ l a, own' l a → own l a) ∧ OK G He H S0 P own' (σ.set i (some v)) (put B δ i d) := by
  unfold put
  split
  · rename_i hf
    exact ⟨_, fun l a e => (ownB_some e).2, ok.set i (r.flat hf _ _)⟩
  · exact ⟨_, fun l a e => (ownB_some (ownB_some e).2).2, (ok.dem B).set i (r.mono fun a z _ => av_ownB (av_ownB' z))⟩
theorem putL_ok2 {He H H' : Hp} {S0 : Addr → Prop} {P : List (V × D)} {own : Nat → Addr → Prop} {σ : L2.St} {δ : DS} {p : Addr} {xs : List V} {ds : List D} (ok : OK G He H S0 P own σ δ) (k : Keep H H') (i : Nat) (hp : H p = none) (hp' : H' p = some (.lst xs)) (r : Reps G H' (fun a => AvB S0 own B a ∨ a = p) xs ds) :
    ∃ own', (∀ l a, own' l a → own l a ∨ a = p) ∧ OK G He H' S0 P own' (σ.set i (some (.ref p))) (putL B δ i ds) := by
  have hi : ∀ {o : Nat → Addr → Prop}, (∀ l a, o l a → own l a) → ∀ l a, ownP o i p l a → own l a ∨ a = p := fun {o} h l a e => by
    rcases e with e | e
    · exact .inr e.2
    · exact .inl (h l a e.2)
  unfold putL
  split
  · rename_i hf
    exact ⟨_, hi (fun _ _ e => e), ok.setL k i hp hp' (r.flt hf _ _)⟩
  · exact ⟨_, hi (fun _ _ e => (ownB_some e).2), (ok.dem B).setL k i hp hp' (r.mono fun a z _ => z.imp (fun z => av_ownB (av_ownB' z)) id)⟩
theorem tUX_par {x y : UX} {He H : Hp} {S0 : Addr → Prop} {P : List (V × D)} {own : Nat → Addr → Prop} {σ : L2.St} {δ : DS} {sa sb : SV} {i j : Nat} {R : V → V → Hp → Prop} (ok : OK G He H S0 P own σ δ) (hx : x.run δ = some sa) (hy : y.run δ = some sb)
    (k : ∀ v w H2 own', OK G He H2 S0 P own' ((σ.set i (some v)).set j (some w)) (putS y.B (putS x.B δ i sa) j sb) → R v w H2) : tUX G x σ H fun v H1 => tUX G y σ H1 fun w H2 => R v w H2 := by
  cases x with
  | e f Bx =>
    obtain ⟨dx, ex, rfl⟩ := Option.map_eq_some_iff.mp hx
    refine ⟨He, S0, P, own, δ, dx, ok, ex, fun v H1 k1 r1 => ?_⟩
    have ok1 := ok.keep k1
    obtain ⟨own1, sub, okx⟩ := put_ok2 ok1 i r1
    cases y with
    | e g By =>
      obtain ⟨dy, ey, rfl⟩ := Option.map_eq_some_iff.mp hy
      refine ⟨He, S0, P, own, δ, dy, ok1, ey, fun w H2 k2 r2 => ?_⟩
      obtain ⟨own2, oky⟩ := put_ok (B := By) (okx.keep k2) j (r2.mono fun a z _ => z.imp id fun ⟨l, hl, q⟩ => ⟨l, hl, sub l a q⟩)
      exact k v w H2 own2 oky
    | l g By =>
      obtain ⟨dy, ey, rfl⟩ := Option.map_eq_some_iff.mp hy
      refine ⟨He, S0, P, own, δ, dy, ok1, ey, fun p xs H2 k2 hp hp' r2 => ?_⟩
      obtain ⟨own2, oky⟩ := putL_ok (B := By) okx k2 j hp hp' (r2.mono fun a z _ => z.imp (fun z => z.imp id fun ⟨l, hl, q⟩ => ⟨l, hl, sub l a q⟩) id)
      exact k v _ H2 own2 oky
  | l f Bx =>
    obtain ⟨dx, ex, rfl⟩ := Option.map_eq_some_iff.mp hx
    refine ⟨He, S0, P, own, δ, dx, ok, ex, fun p xs H1 k1 hp hp' r1 => ?_⟩
    have okA := ok.avoid hp k1 (by rw [hp']; simp)
    cases y with
    | e g By =>
      obtain ⟨dy, ey, rfl⟩ := Option.map_eq_some_iff.mp hy
      refine ⟨He, _, P, own, δ, dy, okA, ey, fun w H2 k2 r2 => ?_⟩
      obtain ⟨own1, sub, okx⟩ := putL_ok2 (B := Bx) ok (k1.trans k2) i hp (k2.lst hp') (r1.keep k2)
      obtain ⟨own2, oky⟩ := put_ok (B := By) okx j (r2.mono fun a z _ => by
        rcases z with z | ⟨l, hl, q⟩
        · exact .inl (.inl z)
        · rcases sub l a q with q | q
          · exact .inr ⟨l, hl, q⟩
          · exact .inl (.inr q))
      exact k _ w H2 own2 oky
    | l g By =>
      obtain ⟨dy, ey, rfl⟩ := Option.map_eq_some_iff.mp hy
      refine ⟨He, _, P, own, δ, dy, okA, ey, fun p2 ys H2 k2 hp2 hp2' r2 => ?_⟩
      obtain ⟨own1, sub, okx⟩ := putL_ok2 (B := Bx) ok k1 i hp hp' r1
      obtain ⟨own2, oky⟩ := putL_ok (B := By) okx k2 j hp2 hp2' (r2.mono fun a z _ => by
        rcases z with (z | ⟨l, hl, q⟩) | z
        · exact .inl (.inl (.inl z))
        · rcases sub l a q with q | q
          · exact .inl (.inr ⟨l, hl, q⟩)
          · exact .inl (.inl (.inr q))
        · exact .inr z)
      exact k _ _ H2 own2 oky
/-- a, b = e1, e2: two plain local names -/
theorem us_par2 {i j : Nat} {x y : Str} {ux uy : UX} {px py pt : Pos} {kt k2 pt2} (hx : UXe G X a ux) (hy : UXe G X b uy) (hN : X.N.Nodup) (hc : X.calm = true := by rfl) (hi : X.N[i]? = some x := by rfl) (hj : X.N[j]? = some y := by rfl) (hij : i ≠ j := by decide)
    (hlx : X.env.scope.names.lookup x = some .local := by rfl) (hly : X.env.scope.names.lookup y = some .local := by rfl)
    (hw : swappedStores [.Tuple [.Name x px, .Name y py] kt pt] (.Tuple [a, b] k2 pt2) X.env = pure (some [x, y]) := by rfl)
    (hs : swapsWithSole [.Tuple [.Name x px, .Name y py] kt pt] (.Tuple [a, b] k2 pt2) pos.line X.env = pure false := by rfl) (h1 : starEach [a, b] X.env = (false, eval a X.env) :: starEach [b] X.env := by rfl) (h2 : starEach [b] X.env = (false, eval b X.env) :: starEach [] X.env := by rfl) :
    USt G X (.Assign [.Tuple [.Name x px, .Name y py] kt pt] (.Tuple [a, b] k2 pt2) pos) (uPar2 i j ux uy) := ⟨PS.weak (ps_par hc hN hi hj hij hlx hly (pa_cons hx.pe (pa_cons hy.pe pa_nil h2) h1) hw hs) fun D' σ H ⟨He, S0, P, own, δ, n, r, ok, hf, k⟩ => by
  unfold uPar2 at hf
  split at hf
  · rename_i sa sb e1 e2
    cases hf
    exact tUX_par ok e1 e2 fun v w H2 own' ok' => ⟨v, w, rfl, k _ H2 own' ok'⟩
  · cases hf⟩
end
/-! ### a def keeps its pure word -/
theorem start_ok {G : GG} {H : Hp} {S0 : Addr → Prop} {N : List Str} {vs : List V} {ds : List D} (hs : ∀ a, S0 a → H a ≠ none) (ht : TabOk G H) (r : Reps G H S0 vs ds) : OK G H H S0 [] (fun _ _ => False) (L2.start N vs) (startD N.length ds) where
  len := by unfold L2.start startD; simp [r.length]
  kp := Keep.refl H
  tab := ht
  s0 := hs
  ns := fun i a e => by cases e
  val := fun i s e => by
    unfold startD at e
    rw [List.getElem?_append] at e
    split at e
    · rename_i hi
      rw [List.getElem?_map] at e
      cases q : ds[i]? with
      | none => rw [q] at e; cases e
      | some d =>
        rw [q] at e
        cases e
        obtain ⟨v, h1, h2⟩ := r.get q
        refine ⟨v, ?_, h2.mono fun a z _ => z.elim id fun ⟨j, e⟩ => by cases e⟩
        have hl : i < vs.length := (List.getElem?_eq_some_iff.mp h1).1
        unfold L2.start
        rw [List.getElem?_append_left (by rw [List.length_map]; exact hl), List.getElem?_map, h1]; rfl
    · rw [List.getElem?_replicate] at e
      split at e <;> cases e
  ow := fun i a e => by cases e
  inj := fun i j a e => by cases e
  pin := fun p hp => by cases hp
theorem fn_u {P : Program} {w : World} {G : GG} {mg : Str → Option Value} {base : Heap} {x qual : Str} {st : Stmt} {f : Addr} {fd : FuncData} {N ps : List Str} {k n : Nat} {F : List D → Option SV} {comb : US} (FF : Fun G.K x qual st f fd) (S : FnScope N ps (defScope st)) (hn : ps.length = n)
    (body : ∀ (cdv : Value) (A : Around) (outer : List Env) (s : Shared) (H : Hp) (E : XK), Room k (A.deeper (PyProof.Rows.envOfC qual (defScope st) s.heap.objs.size f cdv)) →
      USs G (cxOf CX0 P w G.K mg base N qual (defScope st) f cdv A outer s H E).nox (defBody st) comb)
    (pure : ∀ ds r, F ds = some r → ∃ fuel, runD comb fuel N.length ds = some r) : FnOk P w G.K mg base CX0 (k + 1) f fd ps (uSp G n F) := by
  refine FF.ok S (fun vs H Q E ⟨S0, ds, r, hl, _⟩ => by rw [hl, hn]) fun cdv A outer s H vs Q E hr ⟨S0, ds, r, hl, hs, ht, rv, hF, q⟩ => ⟨_, (body cdv A outer s H E hr).ps, ?_⟩
  obtain ⟨fuel, h⟩ := pure ds r hF
  unfold runD at h
  split at h
  · rename_i r' e
    cases h
    exact ⟨H, S0, [], _, _, fuel, _, start_ok hs ht rv, e, RtPost.mono (fun _ _ q => q) q⟩
  · rename_i δ' e
    cases h
    exact ⟨H, S0, [], _, _, fuel, _, start_ok hs ht rv, e, fun σ' H' own' ok' => q .non H' ok'.kp .non⟩
  · cases h
end U
end
section
set_option Elab.async false
set_option linter.all false
set_option maxRecDepth 100000
set_option maxHeartbeats 1000000
/-! Quiet words: expressions and small defs that change nothing at all, for the items of a generator. -/
namespace U
open PySem PySem.Spec L2
structure QG (K : PySem.W.Frag) (mg : Str → Option Value) (h : Heap) : Prop where
  kin : K.In h
  glob : h.Ns mainGlobals mg
  blt : ∃ mb, h.Ns builtinsNs mb ∧ ∀ x : Str, x ≠ "__name__" → mb x = bootBuiltins x
  lim : h.NoLimit
structure QL (env : Env) (Lc Cap : Str → V → Prop) (LS : Addr → List V → Prop) (h : Heap) : Prop where
  loc : ∃ m, h.Ns env.locals m ∧ ∀ y v, Lc y v → ∃ u, m y = some u ∧ RelV v u
  cap : ∀ y v, Cap y v → ∃ c u, env.cells.lookup y = some c ∧ h.IsCell c (some u) ∧ RelV v u
  lst : ∀ a xs, LS a xs → ∃ its, Vals xs its ∧ PlainL h a its.toArray ∧ xs.length ≤ sizeLine
section
variable {K : PySem.W.Frag} {mg : Str → Option Value} {env : Env} {Lc Cap : Str → V → Prop} {LS : Addr → List V → Prop} {h h' : Heap}
theorem QG.keep (q : QG K mg h) (k : ∀ b o, h.get? b = some o → h'.get? b = some o) : QG K mg h' := ⟨q.kin.keeps k, q.glob.keeps k, let ⟨mb, h1, h2⟩ := q.blt; ⟨mb, h1.keeps k, h2⟩, q.lim.keeps k⟩
theorem PlainL.keep {a : Addr} {its : Array Value} (p : PlainL h a its) (k : ∀ b o, h.get? b = some o → h'.get? b = some o) : PlainL h' a its := by
  obtain ⟨o, n, e, r⟩ := p
  exact ⟨o, n, k _ _ e, r⟩
theorem IsCell.keep {c : Addr} {v : Option Value} (p : h.IsCell c v) (k : ∀ b o, h.get? b = some o → h'.get? b = some o) : h'.IsCell c v := by
  obtain ⟨o, e, r⟩ := p
  exact ⟨o, k _ _ e, r⟩
theorem QL.keep (q : QL env Lc Cap LS h) (k : ∀ b o, h.get? b = some o → h'.get? b = some o) : QL env Lc Cap LS h' :=
  ⟨let ⟨m, h1, h2⟩ := q.loc; ⟨m, h1.keeps k, h2⟩, fun y v c => let ⟨c', u, h1, h2, h3⟩ := q.cap y v c; ⟨c', u, h1, IsCell.keep h2 k, h3⟩, fun a xs l => let ⟨its, h1, h2, h3⟩ := q.lst a xs l; ⟨its, h1, PlainL.keep h2 k, h3⟩⟩
end
theorem _root_.PySem.Keeps.rfl' (s : Shared) : Keeps s s := ⟨s.heap, s.toks, rfl, fun _ _ e => e⟩
theorem _root_.PySem.Keeps.trans' {s s1 s2 : Shared} (a : Keeps s s1) (b : Keeps s1 s2) : Keeps s s2 := by
  obtain ⟨h1, t1, rfl, k1⟩ := a
  obtain ⟨h2, t2, rfl, k2⟩ := b
  exact ⟨h2, t2, rfl, fun b o e => k2 b o (k1 b o e)⟩
theorem _root_.PySem.Keeps.tok' (s : Shared) (t : Nat) : Keeps s { s with toks := t } := ⟨s.heap, t, rfl, fun _ _ e => e⟩
theorem _root_.PySem.Keeps.get' {s s1 : Shared} (a : Keeps s s1) : ∀ b o, s.heap.get? b = some o → s1.heap.get? b = some o := by
  obtain ⟨h1, t1, rfl, k1⟩ := a
  exact k1
/-- the value comes, and nothing is changed -/
structure QE (P : Program) (w : World) (A : Around) (K : PySem.W.Frag) (mg : Str → Option Value) (env : Env) (Lc Cap : Str → V → Prop) (LS : Addr → List V → Prop) (e : Expr) (v : V) : Prop where
  run : ∀ (E : Value → Shared → Prop) (s : Shared), QG K mg s.heap → QL env Lc Cap LS s.heap → wpAny (model P w) A (eval e env) (fun u s' => RelV v u ∧ Keeps s s') E s
section
variable {P : Program} {w : World} {A : Around} {K : PySem.W.Frag} {mg : Str → Option Value} {env : Env} {Lc Cap : Str → V → Prop} {LS : Addr → List V → Prop} {e a b c : Expr} {v u : V} {pos : Pos}
theorem q_loc {x : Str} (hl : Lc x v) (hk : env.scope.kind = .function := by rfl) (hx : env.kindOf x = some .local := by rfl) (hd : (x == ("__debug__" : Str)) = false := by decide) : QE P w A K mg env Lc Cap LS (.Name x pos) v := ⟨fun E s g l => by
  obtain ⟨m, hn, hm⟩ := l.loc
  obtain ⟨u, e, r⟩ := hm x v hl
  exact wpAny_Name (wpAny_loadName_local hk hx hn e ⟨r, Keeps.rfl' s⟩) hd⟩
theorem q_int {i : Int} {j pos} : QE P w A K mg env Lc Cap LS (.Constant (.int i) j pos) (.int i) := ⟨fun E s g l => wpAny_Constant_int ⟨⟨_, rfl⟩, Keeps.tok' s _⟩⟩
theorem q_glob {x : Str} {i : Int} {t : Tok} (hm : mg x = some (.int i t)) (hk : env.scope.kind = .function := by rfl) (hx : env.kindOf x = some .globalImplicit := by rfl) (hg : env.globals = mainGlobals := by rfl) (hd : (x == ("__debug__" : Str)) = false := by decide) : QE P w A K mg env Lc Cap LS (.Name x pos) (.int i) := ⟨fun E s g l =>
  Calls.Name_function_global hk hx (Calls.loadGlobal_global (by rw [hg]; exact g.glob) hm ⟨⟨t, rfl⟩, Keeps.rfl' s⟩) hd⟩
/-- two parts -/
theorem q_two (ha : QE P w A K mg env Lc Cap LS a v) (hb : QE P w A K mg env Lc Cap LS b u) {E : Value → Shared → Prop} {s : Shared} (g : QG K mg s.heap) (l : QL env Lc Cap LS s.heap) {α : Type} {F : Value → Value → Sem α} {Q : α → Shared → Prop}
    (h : ∀ x y s2, RelV v x → RelV u y → Keeps s s2 → wpAny (model P w) A (F x y) Q E s2) : wpAny (model P w) A (eval a env) (fun x s1 => wpAny (model P w) A (eval b env) (fun y s2 => wpAny (model P w) A (F x y) Q E s2) E s1) E s :=
  thn (ha.run E s g l) fun x s1 ⟨r1, k1⟩ => thn (hb.run E s1 (g.keep k1.get') (l.keep k1.get')) fun y s2 ⟨r2, k2⟩ => h x y s2 r1 r2 (k1.trans' k2)
variable {i j : Int}
theorem q_lt (ha : QE P w A K mg env Lc Cap LS a (.int i)) (hb : QE P w A K mg env Lc Cap LS b (.int j)) : QE P w A K mg env Lc Cap LS (.Compare a [.Lt] [b] pos) (.bl (decide (i < j))) := ⟨fun E s g l => wpAny_Compare1 (q_two ha hb g l fun x y s2 ⟨t, e1⟩ ⟨t', e2⟩ k => by
  subst e1; subst e2
  exact PyProof.Rows.lt_int ⟨rfl, k⟩) (nomark _)⟩
theorem q_chain {k : Int} (ha : QE P w A K mg env Lc Cap LS a (.int i)) (hb : QE P w A K mg env Lc Cap LS b (.int j)) (hc : QE P w A K mg env Lc Cap LS c (.int k)) (hm : lastMarks [.LtE, .LtE] [b, c] = false := by with_unfolding_all rfl) : QE P w A K mg env Lc Cap LS (.Compare a [.LtE, .LtE] [b, c] pos) (.bl (decide (i ≤ j) && decide (j ≤ k))) := ⟨fun E s g l => by
  refine PyProof.Rows.Compare_chain (thn (ha.run E s g l) fun x s1 ⟨⟨t, e1⟩, k1⟩ => PyProof.Rows.chain_link (thn (hb.run E s1 (g.keep k1.get') (l.keep k1.get')) fun y s2 ⟨⟨t', e2⟩, k2⟩ => ?_)) hm
  subst e1; subst e2
  refine PyProof.Rows.le_int (wpAny_truthy_bool ?_)
  have k12 := k1.trans' k2
  cases hd : decide (i ≤ j) with
  | false => exact PyProof.Rows.ite_ff ⟨rfl, k12⟩
  | true => exact PyProof.Rows.ite_tt (PyProof.Rows.chain_last (thn (hc.run E s2 (g.keep k12.get') (l.keep k12.get')) fun z s3 ⟨⟨t3, e3⟩, k3⟩ => by
      subst e3
      exact PyProof.Rows.le_int ⟨rfl, k12.trans' k3⟩))⟩
theorem q_one {op} (ha : QE P w A K mg env Lc Cap LS a v) : QE P w A K mg env Lc Cap LS (.BoolOp op [a] pos) v := ⟨fun E s g l => PyProof.Rows.BoolOp_one (ha.run E s g l)⟩
theorem q_and {rest : List Expr} (ha : QE P w A K mg env Lc Cap LS a (.bl true)) (hb : QE P w A K mg env Lc Cap LS (.BoolOp .And (b :: rest) pos) v) : QE P w A K mg env Lc Cap LS (.BoolOp .And (a :: b :: rest) pos) v := ⟨fun E s g l => by
  refine PyProof.Rows.BoolOp_and (thn (ha.run E s g l) fun x s1 ⟨r1, k1⟩ => ?_)
  cases r1
  refine wpAny_truthy_bool (PyProof.Rows.ite_tt ?_)
  exact thn (hb.run E s1 (g.keep k1.get') (l.keep k1.get')) fun y s2 ⟨r2, k2⟩ => ⟨r2, k1.trans' k2⟩⟩
theorem q_not {x : Bool} (ha : QE P w A K mg env Lc Cap LS a (.bl x)) : QE P w A K mg env Lc Cap LS (.UnaryOp .Not a pos) (.bl (!x)) := ⟨fun E s g l => PyProof.Rows.UnaryOp_ (thn (ha.run E s g l) fun x s1 ⟨r1, k1⟩ => by
  cases r1
  exact PyProof.Rows.not_of (wpAny_truthy_bool ⟨rfl, k1⟩))⟩
/-- isinstance(e, T) of a whole number, T a built-in type -/
theorem q_isI {x : Str} {T : String} {bb : Bool} {p px : Pos} (ha : QE P w A K mg env Lc Cap LS a (.int i)) (hk1 : PySem.W.kitOne K (.type "int") (.type T) = some bb) (hm1 : mg "isinstance" = none) (hm2 : mg x = none) (hv2 : bootBuiltins x = some (.type T))
    (hk : env.scope.kind = .function := by rfl) (hx1 : env.kindOf "isinstance" = some .globalImplicit := by rfl) (hx2 : env.kindOf x = some .globalImplicit := by rfl) (hg : env.globals = mainGlobals := by rfl) (hb : env.builtins = builtinsNs := by rfl) (hn : x ≠ "__name__" := by decide) (hd : (x == ("__debug__" : Str)) = false := by decide)
    (he : starEach [a, .Name x px] env = (false, eval a env) :: starEach [.Name x px] env := by rfl) (he2 : starEach [.Name x px] env = (false, eval (.Name x px) env) :: starEach [] env := by rfl) (hpl : (backTo pos (starEach [.Name x px] env)).any (·.1) = false := by rfl) :
    QE P w A K mg env Lc Cap LS (.Call (.Name "isinstance" p) [a, .Name x px] [] pos) (.bl bb) := ⟨fun E s g l => by
  obtain ⟨mb, h1, h2⟩ := g.blt
  refine wpAny_Call_Name_kw (Calls.Name_function_global hk hx1 (Calls.loadGlobal_builtin (by rw [hg]; exact g.glob) hm1 (by rw [hb]; exact h1) ((h2 _ (by decide)).trans (show bootBuiltins "isinstance" = some (.builtin "isinstance") by decide +kernel)) ?_) (by decide))
  refine PyProof.Rows.callWith_builtin1 ?_ he hpl
  rw [he]
  show wpAny _ _ (spliced ((false, eval a env) :: backTo pos (starEach [.Name x px] env))) _ _ s
  refine Calls.spliced_cons (thn (ha.run E s g l) fun y s1 ⟨⟨t, e1⟩, k1⟩ => ?_)
  subst e1
  rw [he2]
  show wpAny _ _ (spliced ((false, eval (.Name x px) env) :: backTo pos (starEach [] env))) _ _ s1
  have g1 := g.keep k1.get'
  obtain ⟨mb', h1', h2'⟩ := g1.blt
  refine Calls.spliced_cons (Calls.Name_function_global hk hx2 (Calls.loadGlobal_builtin (by rw [hg]; exact g1.glob) hm2 (by rw [hb]; exact h1') ((h2' x hn).trans hv2) ?_) hd)
  refine Calls.spliced_nil ?_
  exact PySem.W.kia_one PySem.W.kitx_int g1.kin True.intro hk1 (fun z => nomatch z) fun tk => ⟨rfl, k1.trans' (Keeps.tok' s1 tk)⟩⟩
/-- a small def that changes nothing -/
def LsOk (LS : Addr → List V → Prop) (h : Heap) : Prop := ∀ a xs, LS a xs → ∃ its, Vals xs its ∧ PlainL h a its.toArray ∧ xs.length ≤ sizeLine
structure QFn (P : Program) (w : World) (K : PySem.W.Frag) (mg : Str → Option Value) (LS : Addr → List V → Prop) (k : Nat) (f : Addr) (vs : List V) (v : V) : Prop where
  run : ∀ (A : Around) (s : Shared) (us : List Value) (R : Result → Shared → Prop), A.depth + k < recursionLimit → QG K mg s.heap → LsOk LS s.heap → Vals vs us → (∀ u s', RelV v u → Keeps s s' → R (.ok (.ret u)) s') → codeAny (model P w) A (.call (.ref f) ⟨us, []⟩) R s
/-- f(e, ..) -/
structure QA (P : Program) (w : World) (A : Around) (K : PySem.W.Frag) (mg : Str → Option Value) (env : Env) (Lc Cap : Str → V → Prop) (LS : Addr → List V → Prop) (es : List Expr) (vs : List V) : Prop where
  run : ∀ (pos : Pos) (E : Value → Shared → Prop) (s : Shared), QG K mg s.heap → QL env Lc Cap LS s.heap → wpAny (model P w) A (spliced (backTo pos (starEach es env))) (fun us s' => Vals vs us ∧ Keeps s s') E s
theorem qa_nil : QA P w A K mg env Lc Cap LS [] [] := ⟨fun pos E s g l => Calls.spliced_nil ⟨.nil, Keeps.rfl' s⟩⟩
theorem qa_cons {es : List Expr} {vs : List V} (ha : QE P w A K mg env Lc Cap LS e v) (hr : QA P w A K mg env Lc Cap LS es vs) (he : starEach (e :: es) env = (false, eval e env) :: starEach es env := by rfl) : QA P w A K mg env Lc Cap LS (e :: es) (v :: vs) := ⟨fun pos E s g l => by
  rw [he]
  show wpAny _ _ (spliced ((false, eval e env) :: backTo pos (starEach es env))) _ _ s
  exact Calls.spliced_cons (thn (ha.run E s g l) fun u s1 ⟨r1, k1⟩ => thn (hr.run pos E s1 (g.keep k1.get') (l.keep k1.get')) fun us s2 ⟨r2, k2⟩ => ⟨.cons r1 r2, k1.trans' k2⟩)⟩
theorem q_call {x : Str} {f : Addr} {k : Nat} {es : List Expr} {vs : List V} {p : Pos} (hF : QFn P w K mg LS k f vs v) (ha : QA P w A K mg env Lc Cap LS (e :: es) vs) (hr : A.depth + k < recursionLimit) (hm : mg x = some (.ref f)) (hkp : PySem.W.keepIn K (.ref f) = true)
    (hk : env.scope.kind = .function := by rfl) (hx : env.kindOf x = some .globalImplicit := by rfl) (hg : env.globals = mainGlobals := by rfl) (hd : (x == ("__debug__" : Str)) = false := by decide)
    (he : starEach (e :: es) env = (false, eval e env) :: starEach es env := by rfl) (hpl : (backTo pos (starEach es env)).any (·.1) = false := by rfl) : QE P w A K mg env Lc Cap LS (.Call (.Name x p) (e :: es) [] pos) v := ⟨fun E s g l => by
  refine wpAny_Call_Name_kw (Calls.Name_function_global hk hx (Calls.loadGlobal_global (by rw [hg]; exact g.glob) hm ?_) hd)
  refine PySem.W.callWith_K (h₀ := s.heap) g.kin hkp (thn (ha.run pos E s g l) fun us s1 ⟨r1, k1⟩ => ⟨g.kin.keeps k1.get', ?_⟩) he hpl
  exact wpAny_call (hF.run A s1 us _ hr (g.keep k1.get') (l.keep k1.get').lst r1 fun u s' r k2 => ⟨r, k1.trans' k2⟩)⟩
end
/-- a def whose body hands back one expression -/
theorem qfn_ret {P : Program} {w : World} {K : PySem.W.Frag} {mg : Str → Option Value} {LS : Addr → List V → Prop} {k : Nat} {f : Addr} {fd : FuncData} {x qual : Str} {st : Stmt} {ps : List Str} {vs : List V} {v : V} {e : Expr} {pos : Pos} (F : Fun K x qual st f fd) (hb : Binds K fd ps []) (hl : vs.length = ps.length) (hnd : ps.Nodup)
    (hpar : ∀ y ∈ ps, (defScope st).names.lookup y = some .local) (hst : defBody st = [.Return (some e) pos]) (hco : (defScope st).isCoroutine = false := by rfl) (hgen : (defScope st).isGenerator = false := by rfl) (hkd : (defScope st).kind = .function := by rfl)
    (he : ∀ (A : Around) (L : Addr) (cd : Value), A.depth + k < recursionLimit → QE P w A K mg (PyProof.Rows.envOfC qual (defScope st) L f cd) (fun y v => (y, v) ∈ ps.zip vs) (fun _ _ => False) LS e v) : QFn P w K mg LS (k + 1) f vs v := ⟨fun A s us R hr g ls r h => by
  obtain ⟨oc, od, kV, doc, pm, an, cdv, ct, osl, rfl, lk, hcd⟩ := F.ex
  have hlu : us.length = ps.length := by rw [← r.length]; exact hl
  refine Att.call_fn (K := K) g.kin g.lim lk hcd (by omega) ((hb s us g.kin (by rw [List.append_nil]; exact hlu))) ?_ (fun s₁ x => ?_) hco hgen hkd
  · rw [List.append_nil]
    refine List.all_eq_true.mpr fun y hy => ?_
    rw [hpar y.1 (List.of_mem_zip (show (y.1, y.2) ∈ ps.zip us from hy)).1]; rfl
  · rw [List.append_nil] at x
    obtain ⟨h1, tk, rfl, hk⟩ := x.done
    rw [hst]
    refine wpAny_execs_cons (wpAny_Return_some (thn ((he _ s.heap.objs.size cdv (by show A.depth + 1 + k < _; omega)).run _ _ (g.keep hk) ⟨⟨_, x.toInCall.ns, fun y v' hm => ?_⟩, fun _ _ z => z.elim, fun a xs q => let ⟨its, q1, q2, q3⟩ := ls a xs q; ⟨its, q1, PlainL.keep q2 hk, q3⟩⟩) fun u s2 ⟨r2, k2⟩ => h u s2 r2 ?_))
    · obtain ⟨i, hi, e⟩ := List.getElem_of_mem hm
      have hi' : i < ps.length ∧ i < vs.length := by rw [List.length_zip] at hi; omega
      rw [List.getElem_zip] at e
      have e1 : ps[i] = y := congrArg Prod.fst e
      have e2 : vs[i] = v' := congrArg Prod.snd e
      obtain ⟨u, hu, ru⟩ := r.get (i := i) (x := v') (by rw [List.getElem?_eq_getElem hi'.2, e2])
      have hp : ps[i]? = some y := by rw [List.getElem?_eq_getElem hi'.1, e1]
      exact ⟨u, bindL_get hnd hp hu (hpar y (List.mem_of_getElem? hp)), ru⟩
    · exact Keeps.trans' (s1 := { s with heap := h1, toks := tk }) ⟨h1, tk, rfl, hk⟩ k2⟩
end U
end
section
set_option Elab.async false
set_option linter.all false
set_option maxRecDepth 100000
set_option maxHeartbeats 1000000
/-! all(..), any(..) of a generator over a list. -/
namespace U
open PySem PySem.Spec L2
/-- a def's code and its table of code -/
structure CodeAt (h : Heap) (c P : Addr) : Prop where
  ex : ∃ o vs file tf flags tg inF text tt, h.get? c = some o ∧ o.cls = .type "code" ∧ o.data = .fields vs ∧ vs.getD 11 .none = .ref P ∧ vs[11]? = some (.ref P) ∧ vs.getD 18 .none = .str file tf ∧ vs.getD 7 .none = .int flags tg ∧ vs.getD 9 .none = .bool inF ∧ vs.getD 10 .none = .int text tt
  ne : c ≠ P
theorem CodeAt.of {h : Heap} {c P : Addr} {ps : Array Value} (a : h.IsCode c P ps) (b : h.TableAt c P ps) : CodeAt h c P := by
  obtain ⟨o, vs, file, tf, flags, tg, inF, text, tt, op, e1, e2, e3, e4, e5, e6, e7, e8, e9, e10, e11⟩ := a
  obtain ⟨⟨o', vs', f1, f2, f3, f4⟩, _⟩ := b
  rw [e1] at f1; cases f1
  rw [e2] at f3; cases f3
  exact ⟨⟨o, vs, file, tf, flags, tg, inF, text, tt, e1, f2, e2, e3, f4, e4, e5, e6, e7⟩, e11⟩
theorem CodeAt.keep {h h' : Heap} {c P : Addr} (x : CodeAt h c P) (k : ∀ b o, h.get? b = some o → h'.get? b = some o) : CodeAt h' c P := by
  obtain ⟨⟨o, vs, file, tf, flags, tg, inF, text, tt, e1, r⟩, ne⟩ := x
  exact ⟨⟨o, vs, file, tf, flags, tg, inF, text, tt, k _ _ e1, r⟩, ne⟩
def TabObj (ps : Array Value) : Obj := { cls := .none, data := .fields ps }
theorem genexprCode_ok {M : Model} {A : Around} {E : Value → Shared → Prop} {s : Shared} {env : Env} {c P : Addr} {ps : Array Value} {pos : Pos} {qual : Str} {scope : Scope} {Q : Value → Shared → Prop} (hc : env.code = .ref c) (x : CodeAt s.heap c P) (ht : s.heap.get? P = some (TabObj ps)) (hp : TriplesOk ps.toList)
    (h : ∀ code ps' h' tk, TriplesOk ps'.toList → (∃ more, ps' = ps ++ more) → h'.get? P = some (TabObj ps') → Heap.ExtBut P s.heap h' → s.heap.objs.size ≤ h'.objs.size → Q code { s with heap := h', toks := tk }) : wpAny M A (genexprCode env pos qual scope) Q E s := by
  obtain ⟨⟨o, vs, file, tf, flags, tg, inF, text, tt, e1, e2, e3, e4, e4', e5, e6, e7, e8⟩, ne⟩ := x
  cases hf : codeAmong pos ps.toList with
  | some v =>
    unfold genexprCode codeAt
    (rw [hc, if_neg (show ¬ ((Value.ref c == Value.none) = true) from Bool.false_ne_true)])
    refine wpAny_bind (wpAny_fieldsOf e1 e3 ?_)
    rw [e4]
    refine wpAny_bind (wpAny_fieldsOf ht (show (TabObj ps).data = .fields ps from rfl) ?_)
    rw [hf]
    exact wpAny_pure (h v ps s.heap s.toks hp ⟨#[], by simp⟩ ht (fun b o _ e => e) (Nat.le_refl _))
  | none =>
    have hcode : s.heap.IsCode c P ps := ⟨o, vs, file, tf, flags, tg, inF, text, tt, TabObj ps, e1, e3, e4, e5, e6, e7, e8, ht, rfl, hp, ne⟩
    have htab : s.heap.TableAt c P ps := ⟨⟨o, vs, e1, e2, e3, e4'⟩, ht⟩
    refine wpAny_genexprCodeX hc hcode htab hf fun c' h' tk hx hge hlt hcode' _ htab' _ => ?_
    refine h _ _ h' tk ?_ ⟨_, rfl⟩ htab'.2 hx (Nat.le_trans hge (Nat.le_of_lt hlt))
    obtain ⟨_, _, _, _, _, _, _, _, _, op, _, _, _, _, _, _, _, g1, g2, g3, _⟩ := hcode'
    exact g3
theorem lookup_all {l : List (Str × Addr)} {n : Str} {c : Addr} (h : (n, c) ∈ l) (u : ∀ c', (n, c') ∈ l → c' = c) : l.lookup n = some c := by
  induction l with
  | nil => cases h
  | cons p r ih =>
    obtain ⟨m, d⟩ := p
    rw [List.lookup_cons]
    by_cases e : n = m
    · subst e
      rw [beq_self_eq_true]
      exact congrArg some (u d (List.mem_cons_self ..))
    · rw [beq_eq_false_iff_ne.mpr e]
      refine ih ?_ fun c' hc => u c' (List.mem_cons_of_mem _ hc)
      rcases List.mem_cons.mp h with z | z
      · exact absurd (congrArg Prod.fst z) e
      · exact z
theorem clo_lookup {cells : List (Str × Addr)} {names : List (Str × NameKind)} {n : Str} {c : Addr} (h : (n, .free) ∈ names) (e : cells.lookup n = some c) : (cloFrom cells names []).lookup n = some c := by
  have e' : (cells.lookup n).getD 0 = c := by rw [e]; rfl
  refine lookup_all (e' ▸ cloFrom_has h) fun c' hc => ?_
  rcases cloFrom_mem hc with z | ⟨_, z⟩
  · cases z
  · rw [z, e']
def CapOf (X : Cx) (σ : L2.St) (scope : Scope) : Str → V → Prop := fun y v => ∃ i : Nat, X.N[i]? = some y ∧ σ[i]? = some (some v) ∧ scope.names.lookup y = some .free
/-- an item of the generator is a truth, whatever stands around -/
def ItemOk (X : Cx) (σ : L2.St) (H : Hp) (scope : Scope) (x : Str) (elt : Expr) (it : V) (b : Bool) : Prop :=
  ∀ (A' : Around) (cl : List (Str × Addr)) (C : Addr) (code : Value), A'.handled = none → A'.depth ≤ X.A.depth + 1 →
    QE X.prog X.w A' X.K X.mg (genEnv scope cl C code builtinsNs X.env) (fun y v => y = x ∧ v = it) (CapOf X σ scope) (fun a xs => H a = some (.lst xs)) elt (.bl b)
theorem lookup_mem {α β : Type} [BEq α] [LawfulBEq α] {l : List (α × β)} {a : α} {b : β} (h : l.lookup a = some b) : (a, b) ∈ l := by
  induction l with
  | nil => cases h
  | cons p r ih =>
    obtain ⟨m, d⟩ := p
    rw [List.lookup_cons] at h
    split at h
    · rename_i e
      cases h
      rw [eq_of_beq e]; exact List.mem_cons_self ..
    · exact List.mem_cons_of_mem _ (ih h)
theorem gen_step {gf : Option Str} {X : Cx} {pins : List (Addr × Obj)} {σ : L2.St} {H1 : Hp} {s1 s' : Shared} {P : Addr} {ps ps' : Array Value} (I : Inv X pins σ H1 s1) (hP : H1 P = some (.tb gf ps)) (hps : ∃ more, ps' = ps ++ more) (ho : s'.os = s1.os) (hg : PyProof.Rows.AllBare s'.gens)
    (hk : ∀ b o, b ≠ P → s1.heap.get? b = some o → s'.heap.get? b = some o) (hP' : s'.heap.get? P = some (TabObj ps')) : Inv X pins σ (upd H1 P (.tb gf ps')) s' := by
  obtain ⟨h', g', d', t', o'⟩ := s'
  have e : o' = s1.os := ho
  subst e
  have neP : ∀ b u, H1 b = some u → (∀ qs, u ≠ .tb gf qs) → b ≠ P := fun b u q n z => by rw [z, hP] at q; cases q; exact n _ rfl
  have nP : ∀ b, H1 b = none → b ≠ P := fun b q z => by rw [z, hP] at q; cases q
  refine I.step (H' := upd H1 P (.tb gf ps')) (h' := h') (g' := g') (d' := d') (t' := t') (ch := []) (fun b z => by cases z) (fun b o _ _ _ q n => hk b o (nP b n) q) (fun b o _ _ _ q n => ⟨o.slots, hk b o (nP b n) q⟩) (fun b o _ q n => by rw [upd_ne (nP b n)]; exact n)
    (fun b o _ q => ?_) (fun b xs q => by rw [upd_ne (neP b _ q fun _ z => by cases z)]; exact q) (fun b o u q => by rw [upd_ne (neP b _ q fun _ z => by cases z)]; exact q) (fun b _ qs q => ?_) (fun m hm => ?_) (fun b u q => ?_) hg
  · by_cases hb : b = P
    · subst hb; exact ⟨_, hP'⟩
    · exact ⟨o, hk b o hb q⟩
  · by_cases hb : b = P
    · subst hb
      rw [hP] at q; cases q
      obtain ⟨more, rfl⟩ := hps
      exact ⟨more, upd_same⟩
    · exact ⟨#[], by rw [upd_ne hb, q]; simp⟩
  · obtain ⟨o, es, ep, ho, r⟩ := hm
    exact ⟨o, es, ep, hk _ o (nP _ I.free) ho, r⟩
  · by_cases hb : b = P
    · subst hb
      rw [upd_same] at q; cases q
      exact hP'
    · rw [upd_ne hb] at q
      refine (I.hok b u q).stay (fun c v hc e => hk c v ?_ e) (fun c e => by rw [upd_ne (neP c _ e fun _ z => by cases z)]; exact e) fun c xs e => by rw [upd_ne (neP c _ e fun _ z => by cases z)]; exact e
      rcases hc with rfl | hc
      · exact hb
      · exact neP c _ hc fun _ z => by cases z
end U
end
section
set_option Elab.async false
set_option linter.all false
set_option maxRecDepth 100000
set_option maxHeartbeats 1000000
/-! The words for all(..), any(..); over zip, too. -/
namespace U
open PySem PySem.Spec L2
def ItemOk2 (X : Cx) (σ : L2.St) (H : Hp) (scope : Scope) (x y : Str) (elt : Expr) (it jt : V) (b : Bool) : Prop :=
  ∀ (A' : Around) (cl : List (Str × Addr)) (C : Addr) (code : Value), A'.handled = none → A'.depth ≤ X.A.depth + 1 →
    QE X.prog X.w A' X.K X.mg (genEnv scope cl C code builtinsNs X.env) (fun z v => (z = x ∧ v = it) ∨ (z = y ∧ v = jt)) (CapOf X σ scope) (fun a xs => H a = some (.lst xs)) elt (.bl b)
def tGen2 (X : Cx) (P : Addr) (scope : Scope) (x y : Str) (elt : Expr) (ta : TA) : TE := fun σ H Q => ta σ H fun xvs H1 => ∃ (l1 l2 : Addr) (vs us : List V) (tr : Nat → Bool) (ps : Array Value), xvs = [.ref l1, .ref l2] ∧ H1 l1 = some (.lst vs) ∧ H1 l2 = some (.lst us) ∧ H1 P = some (.tbl ps) ∧ TriplesOk ps.toList ∧
  (∀ (i : Nat) it jt, vs[i]? = some it → us[i]? = some jt → ItemOk2 X σ H1 scope x y elt it jt (tr i)) ∧ ∀ ps' : Array Value, TriplesOk ps'.toList → Q (.bl ((List.range (min vs.length us.length)).all tr)) (upd H1 P (.tbl ps'))
theorem pe_gen2 {X : Cx} {k : Nat} {c P bm : Addr} {ob : Obj} {elt e1 e2 : Expr} {x y : Str} {px py pt p zp zpos gpos pos : Pos} {kt : Nat} {scope : Scope} {ta : TA} (hr : Room k X.A) (hk2 : 2 ≤ k) (ha : PA X [e1, e2] ta) (hcode : X.env.code = .ref c) (hCA : CodeAt X.base c P) (hB : PyProof.Rows.BMod X.base mainGlobals X.mg bm ob)
    (hm : X.mg "all" = none) (hmz : X.mg "zip" = none) (hg : L2.Gl X "all") (hgz : L2.Gl X "zip")
    (hfree : ∀ y ∈ scope.names, y.2 = .free → X.env.kindOf y.1 = some .cell ∨ X.env.kindOf y.1 = some .free)
    (hco : scope.isCoroutine = false) (hcell : ∀ y ∈ scope.names, y.2 ≠ .cell) (h0 : scope.names.lookup (".0" : Str) = some NameKind.local) (hx : scope.names.lookup x = some .local) (hy : scope.names.lookup y = some .local) (hxy : x ≠ y) (hkind : scope.kind = .function)
    (hs : ∀ v, genFold (.Call (.Name "zip" zp) [e1, e2] [] zpos) X.env v = pure v)
    (hz1 : starEach [e1, e2] X.env = (false, eval e1 X.env) :: starEach [e2] X.env) (hz2 : (backTo zpos (starEach [e2] X.env)).any (·.1) = false)
    (he : starEach [.GeneratorExp elt [⟨.Tuple [.Name x px, .Name y py] kt pt, .Call (.Name "zip" zp) [e1, e2] [] zpos, [], 0⟩] scope gpos] X.env = (false, eval (.GeneratorExp elt [⟨.Tuple [.Name x px, .Name y py] kt pt, .Call (.Name "zip" zp) [e1, e2] [] zpos, [], 0⟩] scope gpos) X.env) :: starEach [] X.env) (hpl : (backTo pos (starEach [] X.env)).any (·.1) = false) :
    PE X (.Call (.Name "all" p) [.GeneratorExp elt [⟨.Tuple [.Name x px, .Name y py] kt pt, .Call (.Name "zip" zp) [e1, e2] [] zpos, [], 0⟩] scope gpos] [] pos) (tGen2 X P scope x y elt ta) := by
  intro pins s σ H Q I h
  have hclo : ∀ y ∈ scope.names, y.2 = .free → ∃ c, X.env.cells.lookup y.1 = some c := fun y hy e => I.ok.has y.1 (hfree y hy e)
  refine wpAny_Call_Name_kw (ld_blt I hg hm (show bootBuiltins "all" = some (.builtin "all") by decide +kernel) ?_ (by decide) (by decide))
  refine PyProof.Rows.callWith_builtin1 ?_ he hpl
  rw [he]
  show wpAny _ _ (spliced ((false, eval (.GeneratorExp elt [⟨.Tuple [.Name x px, .Name y py] kt pt, .Call (.Name "zip" zp) [e1, e2] [] zpos, [], 0⟩] scope gpos) X.env) :: backTo pos (starEach [] X.env))) _ _ s
  refine Calls.spliced_cons ?_
  refine wpAny_GeneratorExp_walksQTD hr.hd hco (closure_ok hclo) hcell h0 hx hy hxy hkind hr.depth ?_ hs
  refine PyProof.Rows.Call_ (ld_blt I hgz hmz boot_zip5 (PyProof.Rows.callWith_type1 (thn (ha zpos pins s σ H _ I h) fun uvs s1 ⟨xvs, H1, I1, rvs, l1, l2, vs, us, tr, ps, exv, hl1, hl2, hP, htri, hit, hQ⟩ => ?_) hz1 hz2) (by decide) (by decide))
  subst exv
  cases rvs with
  | cons r rr =>
  cases rr with
  | cons r' rr =>
  cases rr
  cases r
  cases r'
  obtain ⟨its, rv, pl, hz⟩ := I1.list (SqL.of (K := X.K) hl1)
  obtain ⟨jts, rw', pl2, hzz⟩ := I1.list (SqL.of (K := X.K) hl2)
  have hlP1 : l1 ≠ P := fun e => by rw [e, hP] at hl1; cases hl1
  have hlP2 : l2 ≠ P := fun e => by rw [e, hP] at hl2; cases hl2
  have hPo : s1.heap.get? P = some (TabObj ps) := I1.hok P _ hP
  have nP : ∀ b, H1 b = none → b ≠ P := fun b q z => by rw [z, hP] at q; cases q
  have kb1 : ∀ b o, X.base.get? b = some o → s1.heap.get? b = some o ∧ b ≠ P := fun b o e => ⟨(I1.bs b o e).1, nP b (I1.bs b o e).2⟩
  obtain ⟨m, Fh1⟩ := I1.fr
  refine PyProof.Rows.zip_rows Fh1 pl.isList pl2.isList fun h2 z TI TO i1 i2 D hst _ hk2' gz gTO g1 g2 _ => ?_
  refine wpAny_pyIter_zip hst.1 ?_
  have kb2 : ∀ b o, X.base.get? b = some o → h2.get? b = some o := fun b o e => hk2' b o (kb1 b o e).1
  refine ⟨I1.ok.mod.nolimit.keeps kb2, ?_⟩
  refine genexprCode_ok hcode (hCA.keep kb2) (ps := ps) (hk2' _ _ hPo) htri fun code ps' h3 tk3 htri' hmore hP3 hx3 hsz3 => ?_
  have kp3 : ∀ b o, b ≠ P → s1.heap.get? b = some o → h3.get? b = some o := fun b o hb e => hx3 b o hb (hk2' b o e)
  have kb3 : ∀ b o, X.base.get? b = some o → h3.get? b = some o := fun b o e => kp3 b o (kb1 b o e).2 (kb1 b o e).1
  have M3 := hB.keeps kb3
  refine wpAny_builtinsFor (by rw [I1.ok.glob]; exact M3.ns) M3.name M3.ne M3.obj M3.cls M3.dict M3.data ?_
  have lim3 : h3.NoLimit := I1.ok.mod.nolimit.keeps kb3
  have hcs : cStatics < s1.heap.objs.size := by
    obtain ⟨_, ⟨o, _, _, e, _⟩, _⟩ := I1.ok.mod.nolimit
    exact Heap.lt_size (kb1 _ _ e).1
  have W := fun (A' : Around) (hA : A'.handled = none) => (WalksT.zip2 (prog := X.prog) (w := X.w) hA z TI TO i1 i2 l1 l2 D its.toArray jts.toArray).toU
  have tab2 : h2.get? P = some (TabObj ps) := hk2' _ _ hPo
  obtain ⟨sz, sTI, ⟨xa, xb, sTO⟩, ⟨o1, so1, c1, d1⟩, ⟨o2, so2, c2, d2⟩, ⟨q1, sl1, cl1, dl1⟩, ⟨q2, sl2, cl2, dl2⟩⟩ := id hst
  have hfp : ∀ b ∈ [z, TI, TO, i1, i2, l1, l2], b ≠ P ∧ b < h2.objs.size := by
    intro b hb
    (simp only [List.mem_cons, List.not_mem_nil, or_false] at hb)
    (rcases hb with rfl | rfl | rfl | rfl | rfl | rfl | rfl)
    · exact ⟨(fun e => by rw [e] at sz; cases tab2.symm.trans sz), Heap.lt_size sz⟩
    · exact ⟨(fun e => by rw [e] at sTI; cases tab2.symm.trans sTI), Heap.lt_size sTI⟩
    · exact ⟨(fun e => by rw [e] at sTO; cases tab2.symm.trans sTO), Heap.lt_size sTO⟩
    · exact ⟨(fun e => by rw [e, tab2] at so1; cases so1; cases c1), Heap.lt_size so1⟩
    · exact ⟨(fun e => by rw [e, tab2] at so2; cases so2; cases c2), Heap.lt_size so2⟩
    · exact ⟨hlP1, Heap.lt_size sl1⟩
    · exact ⟨hlP2, Heap.lt_size sl2⟩
  have hwr : ∀ b ∈ [z, TO, i1, i2], s1.heap.objs.size ≤ b := by
    intro b hb
    (simp only [List.mem_cons, List.not_mem_nil, or_false] at hb)
    (rcases hb with rfl | rfl | rfl | rfl)
    · exact gz
    · exact gTO
    · exact g1
    · exact g2
  have hst3 := (W X.A hr.hd).frame 0 h2 h3 hst fun b hb o e => hx3 b o (hfp b hb).1 e
  have hsz13 : s1.heap.objs.size ≤ h3.objs.size := Nat.le_trans gz (Nat.le_trans (Nat.le_of_lt (Heap.lt_size sz)) hsz3)
  refine ⟨z, [z, TI, TO, i1, i2, l1, l2], [z, TO, i1, i2], min its.toArray.size jts.toArray.size, _, _, _, (fun _ => true), (fun i y => y = .bool (tr i)), rfl, W, (fun i vals hv => by obtain ⟨a', b', _, _, e⟩ := hv; exact ⟨a', b', e⟩), hst3, (fun b hb => Nat.lt_of_lt_of_le (hfp b hb).2 hsz3), lim3, (fun hb => absurd (Nat.lt_of_lt_of_le hcs (hwr _ hb)) (Nat.lt_irrefl _)), ?_, ?_⟩
  · -- an item
    intro href hhref
    have kh : ∀ (t : Shared), (∀ b ∈ List.range h3.objs.size, b ∉ [z, TO, i1, i2] → ∀ o, href.get? b = some o → t.heap.get? b = some o) → ∀ b o, b ≠ P → s1.heap.get? b = some o → t.heap.get? b = some o := fun t hk b o hb e =>
      hk b (List.mem_range.mpr (Nat.lt_of_lt_of_le (Heap.lt_size e) hsz13)) (fun zz => absurd (Nat.lt_of_lt_of_le (Heap.lt_size e) (hwr b zz)) (Nat.lt_irrefl _)) o (hhref b o (kp3 b o hb e))
    refine ⟨fun A' E' i va vb t m₂ hA hD hU hPv hn hma hmb hk => wpAny_tests_nil ⟨rfl, Keeps.rfl' t⟩, fun A' E' i va vb t m₂ hA hD hU hPv _ hn hma hmb hk => ?_⟩
    have kt := kh t hk
    have kbt : ∀ b o, X.base.get? b = some o → t.heap.get? b = some o := fun b o e => kt b o (kb1 b o e).2 (kb1 b o e).1
    have hlen := rv.length
    have hlen2 := rw'.length
    obtain ⟨x1, y1, hx1, hy1, exy⟩ := hPv
    obtain ⟨rfl, rfl⟩ : va = x1 ∧ vb = y1 := by simpa using congrArg Array.toList exy
    have hi : i < vs.length := by
      have := (Array.getElem?_eq_some_iff.mp hx1).1
      simp at this; omega
    have hj : i < us.length := by
      have := (Array.getElem?_eq_some_iff.mp hy1).1
      simp at this; omega
    obtain ⟨u, hu, ru⟩ := rv.get (List.getElem?_eq_getElem hi)
    obtain ⟨u2, hu2, ru2⟩ := rw'.get (List.getElem?_eq_getElem hj)
    rw [List.getElem?_toArray, hu] at hx1
    rw [List.getElem?_toArray, hu2] at hy1
    cases hx1; cases hy1
    refine thn ((hit i _ _ (List.getElem?_eq_getElem hi) (List.getElem?_eq_getElem hj) A' _ h3.objs.size code hA hD).run E' t ⟨I1.ok.mod.kin.keeps kbt, I1.ok.mod.glob.keeps kbt, let ⟨mb, q1, q2⟩ := I1.ok.mod.blt; ⟨mb, q1.keeps kbt, q2⟩, I1.ok.mod.nolimit.keeps kbt⟩ ⟨⟨m₂, hn, fun y' v' hc => ?_⟩, fun y' v' hc => ?_, fun a xs q => ?_⟩) fun y' s3 ⟨r3, k3⟩ => ⟨r3, k3⟩
    · rcases hc with ⟨e1, e2⟩ | ⟨e1, e2⟩
      · subst e1; subst e2; exact ⟨va, hma, ru⟩
      · subst e1; subst e2; exact ⟨vb, hmb, ru2⟩
    · obtain ⟨j, h1, h2, h3'⟩ := hc
      obtain ⟨m, hns, hl'⟩ := I1.loc
      have hmem := lookup_mem h3'
      have hkk := hfree _ hmem rfl
      obtain ⟨u', r', lk⟩ := hl' j y' v' h1 h2 (by rcases hkk with z | z; exact .inr (.inl z); exact .inr (.inr z))
      rcases lk with ⟨z, _⟩ | ⟨_, cc, e1, e2⟩
      · rcases hkk with w | w
        · have w' : X.env.kindOf y' = some .cell := w
          rw [z] at w'; cases w'
        · have w' : X.env.kindOf y' = some .free := w
          rw [z] at w'; cases w'
      · obtain ⟨oc, g1, g2⟩ := id e2
        exact ⟨cc, u', clo_lookup hmem e1, ⟨oc, kt cc oc (nP cc (I1.freeC y' cc e1)) g1, g2⟩, r'⟩
    · obtain ⟨its2, r2, p2, z2⟩ := I1.list (SqL.of (K := X.K) q)
      obtain ⟨o, n, e, r⟩ := p2
      exact ⟨its2, r2, ⟨o, n, kt a o (fun z => by rw [z, hP] at q; cases q) e, r⟩, z2⟩
  · -- the walk over it
    intro a h5 tk5 gs hbare hlt hsz5 hk5 W' hat
    refine Calls.spliced_nil ?_
    have k15 : ∀ b o, b ≠ P → s1.heap.get? b = some o → h5.get? b = some o := fun b o hb e => hk5 b o (kp3 b o hb e)
    obtain ⟨m, hns, _⟩ := I1.loc
    obtain ⟨oL, es, ep, eL, rL⟩ := id hns
    have hpos : 0 < s1.heap.objs.size := Nat.lt_of_le_of_lt (Nat.zero_le _) hcs
    have Fh : PyProof.Rows.Fr X.base X.env.locals h5 m := ⟨⟨oL, es, ep, k15 _ _ (nP _ I1.free) eL, rL⟩, fun b o e => hk5 b o (kb3 b o e), Nat.le_trans I1.ok.bsz I1.ok.above⟩
    have hpass : ∀ n, passing (fun _ => true) n 0 = List.range n := fun n => by unfold passing; rw [List.drop_zero]; exact List.filter_eq_self.mpr fun _ _ => rfl
    have hn : (passing (fun _ => true) (min its.toArray.size jts.toArray.size) 0).length = min vs.length us.length := by rw [hpass, List.length_range, List.size_toArray, List.size_toArray, rv.length, rw'.length]
    have hF : TruthOf X.prog X.w X.A.in1 (fun j y => ∃ i, (passing (fun _ => true) (min its.toArray.size jts.toArray.size) 0)[j]? = some i ∧ y = .bool (tr i)) tr := fun i v s Q E ⟨i', e1, e2⟩ q => by
      rw [hpass] at e1
      have : i' = i := by
        obtain ⟨h1, h2⟩ := List.getElem?_eq_some_iff.mp e1
        rw [List.getElem_range] at h2; exact h2.symm
      subst this; subst e2
      exact wpAny_truthy_bool q
    have Xg : PyProof.Rows.Gen X.prog X.w X.A (s1.heap.objs.size - 1) a (passing (fun _ => true) (min its.toArray.size jts.toArray.size) 0).length (fun j y => ∃ i, (passing (fun _ => true) (min its.toArray.size jts.toArray.size) 0)[j]? = some i ∧ y = .bool (tr i)) { s1 with gens := s1.gens.push gs, toks := tk5, heap := h5 } := by
      refine ⟨_, _, _, _, W', hat, (fun i s' st => st.1.typeIs), List.mem_cons_self, fun b hb => ?_, fun b hb => ?_⟩
      · show b < h5.objs.size
        rw [hsz5]
        (rcases List.mem_cons.mp hb with rfl | hb)
        · exact Nat.lt_succ_self _
        · (rcases List.mem_cons.mp hb with rfl | hb)
          · exact Nat.lt_succ_of_lt hlt
          · exact Nat.lt_succ_of_lt (Nat.lt_trans (List.mem_range.mp hb) hlt)
      · (rcases List.mem_cons.mp hb with rfl | hb)
        · exact Nat.lt_of_lt_of_le (Nat.sub_lt hpos (by decide)) hsz13
        · exact Nat.lt_of_lt_of_le (Nat.sub_lt hpos (by decide)) (hwr b hb)
    have hLK : X.env.locals ≤ s1.heap.objs.size - 1 := Nat.le_sub_one_of_lt I1.lt
    have hgb : PyProof.Rows.AllBare (s1.gens.push gs) := I1.bare.push hbare
    exact PyProof.Rows.all_rowsK (s := { s1 with gens := s1.gens.push gs, toks := tk5, heap := h5 }) Fh hgb Xg hLK tr hF fun s' _ hg' hos hk' =>
      ⟨.bl _, upd H1 P (.tbl ps'), gen_step I1 hP hmore hos hg' (fun b o hb e => hk' b o (Nat.le_sub_one_of_lt (Heap.lt_size e)) (k15 b o hb e)) (hk' P _ (Nat.le_sub_one_of_lt (Heap.lt_size hPo)) (hk5 P _ hP3)), rfl, by rw [hn]; exact hQ ps' htri'⟩
/-! ### the words -/
def qs (q : D → Option Bool) : List D → Option (List Bool)
  | [] => some []
  | d :: ds => match q d, qs q ds with
    | some b, some bs => some (b :: bs)
    | _, _ => none
theorem qs_get {q : D → Option Bool} : ∀ {ds : List D} {bs : List Bool}, qs q ds = some bs → bs.length = ds.length ∧ ∀ (i : Nat) d, ds[i]? = some d → q d = some (bs.getD i true)
  | [], bs, h => by cases h; exact ⟨rfl, fun i d e => by simp at e⟩
  | d :: ds, bs, h => by
    unfold qs at h
    split at h
    · rename_i b bs' h1 h2
      cases h
      obtain ⟨e1, e2⟩ := qs_get h2
      refine ⟨by simp [e1], fun i d' e => ?_⟩
      cases i with
      | zero => simp at e; subst e; simpa using h1
      | succ i => simpa using e2 i d' (by simpa using e)
    · cases h
theorem all_getD (bs : List Bool) : (List.range bs.length).all (fun i => bs.getD i true) = bs.all id := by
  (rw [Bool.eq_iff_iff, List.all_eq_true, List.all_eq_true])
  constructor
  · intro h b hb
    (obtain ⟨j, hj, rfl⟩ := List.getElem_of_mem hb)
    have := h j (List.mem_range.mpr hj)
    simpa [List.getD_eq_getElem?_getD, List.getElem?_eq_getElem hj] using this
  · intro h j hj
    (have hj' := List.mem_range.mp hj)
    simpa [List.getD_eq_getElem?_getD, List.getElem?_eq_getElem hj'] using h _ (List.getElem_mem hj')
theorem Keep.tbl {H : Hp} {P : Addr} {ps ps' : Array Value} (h : H P = some (.tbl ps)) (t : TriplesOk ps'.toList) : Keep H (upd H P (.tbl ps')) := fun b o e => by
  by_cases hb : b = P
  · subst hb; rw [h] at e; cases e
    exact .inr (.inl ⟨ps, ps', rfl, upd_same, fun _ => t⟩)
  · exact .inl (by rw [upd_ne hb]; exact e)
/-- what is known of the code and its table, for a def that makes a generator -/
structure GenCx (G : GG) (X : Cx) : Prop where
  ex : ∃ c P bm ob, X.env.code = .ref c ∧ CodeAt X.base c P ∧ PyProof.Rows.BMod X.base mainGlobals X.mg bm ob ∧ P ∈ G.tabs
def uGen2 (f g : UEf) (q : DS → D → D → Option Bool) : UEf := fun δ => match f δ, g δ with
  | some (.lst ds), some (.lst es) => match qs (fun p => match p with | .tup [a, b] => q δ a b | _ => none) (zipD ds es) with
    | some bs => some (.bl (bs.all id))
    | none => none
  | _, _ => none
theorem u_gen2 {G : GG} {X : Cx} {k : Nat} {elt e1 e2 : Expr} {x y : Str} {px py pt p zp zpos gpos pos : Pos} {kt : Nat} {scope : Scope} {f g : UEf} {B Bb : List Nat} {q : DS → D → D → Option Bool} (hc : GenCx G X) (hr : Room k X.A) (ha : UE G X e1 f B) (hb : UE G X e2 g Bb) (hm : X.mg "all" = none) (hmz : X.mg "zip" = none)
    (hq : ∀ He H S0 P own σ δ, OK G He H S0 P own σ δ → ∀ d e b it jt S, q δ d e = some b → Rep G H S it d → Rep G H S jt e → ItemOk2 X σ H scope x y elt it jt b)
    (hfree : ∀ y ∈ scope.names, y.2 = .free → X.env.kindOf y.1 = some .cell ∨ X.env.kindOf y.1 = some .free)
    (hk2 : 2 ≤ k := by decide) (hg : L2.Gl X "all" := by rfl) (hgz : L2.Gl X "zip" := by rfl)
    (hco : scope.isCoroutine = false := by rfl) (hcell : ∀ y ∈ scope.names, y.2 ≠ .cell := by decide +kernel) (h0 : scope.names.lookup (".0" : Str) = some NameKind.local := by rfl) (hx : scope.names.lookup x = some .local := by rfl) (hy : scope.names.lookup y = some .local := by rfl) (hxy : x ≠ y := by decide) (hkind : scope.kind = .function := by rfl)
    (hs : ∀ v, genFold (.Call (.Name "zip" zp) [e1, e2] [] zpos) X.env v = pure v := by intro _; rfl)
    (hz1 : starEach [e1, e2] X.env = (false, eval e1 X.env) :: starEach [e2] X.env := by rfl) (hz3 : starEach [e2] X.env = (false, eval e2 X.env) :: starEach [] X.env := by rfl) (hz2 : (backTo zpos (starEach [e2] X.env)).any (·.1) = false := by rfl)
    (he : starEach [.GeneratorExp elt [⟨.Tuple [.Name x px, .Name y py] kt pt, .Call (.Name "zip" zp) [e1, e2] [] zpos, [], 0⟩] scope gpos] X.env = (false, eval (.GeneratorExp elt [⟨.Tuple [.Name x px, .Name y py] kt pt, .Call (.Name "zip" zp) [e1, e2] [] zpos, [], 0⟩] scope gpos) X.env) :: starEach [] X.env := by rfl) (hpl : (backTo pos (starEach [] X.env)).any (·.1) = false := by rfl) :
    UE G X (.Call (.Name "all" p) [.GeneratorExp elt [⟨.Tuple [.Name x px, .Name y py] kt pt, .Call (.Name "zip" zp) [e1, e2] [] zpos, [], 0⟩] scope gpos] [] pos) (uGen2 f g q) [] := by
  obtain ⟨c, P, bm, ob, hcode, hCA, hB, hP⟩ := hc.ex
  refine ⟨PE.weak (pe_gen2 hr hk2 (pa_cons ha.pe (pa_cons hb.pe pa_nil hz3) hz1) hcode hCA hB hm hmz hg hgz hfree hco hcell h0 hx hy hxy hkind hs hz1 hz2 he hpl) fun σ H Q ⟨He, S0, Pn, own, δ, d, ok, hf, kk⟩ => ?_⟩
  unfold uGen2 at hf
  split at hf
  · rename_i ds es h1 h2
    split at hf
    · rename_i bs h3
      cases hf
      refine tU.two ok h1 h2 fun v u H2 k2 r1 r2 => ?_
      cases r1 with
      | lst hl n rr => cases r2 with
        | lst hl2 n2 rr2 =>
          have ok1 := ok.keep k2
          obtain ⟨ps, hps, htri⟩ := ok1.tab.keep ok1.kp P hP
          obtain ⟨hlen, hget⟩ := qs_get h3
          refine ⟨_, _, _, _, fun i => bs.getD i true, ps, rfl, hl, hl2, hps, htri, fun i it jt e e' => ?_, fun ps' ht => ?_⟩
          · obtain ⟨dd, e1, e2⟩ := rr.get' e
            obtain ⟨ee, e3, e4⟩ := rr2.get' e'
            have := hget i (.tup [dd, ee]) (by unfold zipD; rw [List.getElem?_zipWith, e1, e3])
            exact hq _ _ _ _ _ _ _ ok1 dd ee _ it jt _ this e2 e4
          · have hz : bs.length = min ds.length es.length := by rw [hlen]; unfold zipD; rw [List.length_zipWith]
            rw [rr.length, rr2.length, ← hz, all_getD]
            exact kk _ _ (k2.trans (Keep.tbl hps ht)) (.bl _)
    · cases hf
  · cases hf
end U
end
section
set_option Elab.async false
set_option linter.all false
set_option maxRecDepth 100000
set_option maxHeartbeats 1000000
/-! all(..), any(..) of a generator, whatever its items do: the states of generators never get fewer; the walk by all, by any. -/
namespace U
open PySem PySem.Spec L2
theorem setGen_size (s : Shared) (g : Nat) (x : GenState) : (s.setGen g x).gens.size = s.gens.size := by simp [Shared.setGen]
theorem runs_gens {M : Model} {Γ : PySem.Ctx} {p : Pos} {t : Sem Fin} {fs : List Frame} {s s' : Shared} {e : End} (h : Runs M Γ p t fs s e s') : s.gens.size ≤ s'.gens.size := by
  induction h <;> (try simp only [Shared.setGen, Array.size_push, Array.size_set, Array.size_setIfInBounds] at *) <;> omega
theorem wakes_gens {M : Model} {Γ : PySem.Ctx} {p : Pos} {g : Nat} {r : Resume} {s s' : Shared} {res : GenResult} (h : Wakes M Γ p g r s res s') : s.gens.size ≤ s'.gens.size := by
  unfold Wakes at h
  split at h
  · exact h.elim
  · split at h
    · obtain ⟨e₁, s₁, hr, _, _, rfl⟩ := h
      rw [setGen_size, ← setGen_size s g .running]; exact runs_gens hr
    · rw [h.2]; first | exact Nat.le_refl _ | (rw [setGen_size]; exact Nat.le_refl _)
    · rw [h.2]; first | exact Nat.le_refl _ | (rw [setGen_size]; exact Nat.le_refl _)
  · obtain ⟨e₁, s₁, hr, _, _, rfl⟩ := h
    rw [setGen_size, ← setGen_size s g .running]; exact runs_gens hr
  · (rw [h.2]; exact Nat.le_refl _)
  · (rw [h.2]; exact Nat.le_refl _)
theorem wp_gens {α : Type} (M : Model) (Γ : PySem.Ctx) (n : Nat) (t : Sem α) : ∀ (Q : α → Pos → Shared → Prop) (E : Value → Pos → Shared → Prop) (p : Pos) (s : Shared), n ≤ s.gens.size → Sem.wp M Γ t Q E p s →
    Sem.wp M Γ t (fun a p' s' => n ≤ s'.gens.size ∧ Q a p' s') (fun e p' s' => n ≤ s'.gens.size ∧ E e p' s') p s := by
  induction t with
  | pure a => intro Q E p s hz h; exact ⟨hz, h⟩
  | raise e => intro Q E p s hz h; exact ⟨hz, h⟩
  | unsupported _ => intro Q E p s _ hw; exact hw
  | finish _ => intro Q E p s _ hw; exact hw
  | rule _ k ih => intro Q E p s hz h; exact ih () Q E p s hz h
  | «at» p' k ih => intro Q E p s hz h; exact ih () Q E p' s hz h
  | load a _ k ih => intro Q E p s hz h; obtain ⟨o, ho, h⟩ := h; exact ⟨o, ho, ih o Q E p s hz h⟩
  | update a _ f k ih => intro Q E p s hz h; exact ⟨h.1, ih () Q E p _ hz h.2⟩
  | loadIfAlive a k ih => intro Q E p s hz h; exact ih _ Q E p s hz h
  | point _ k ih => intro Q E p s hz h; exact ih () Q E p s hz h
  | register _ _ => intro Q E p s _ hw; exact hw
  | alloc o k ih => intro Q E p s hz h; exact ih _ Q E p _ hz h
  | fresh k ih => intro Q E p s hz h; exact ih _ Q E p _ hz h
  | ask k ih => intro Q E p s hz h; exact ih _ Q E p s hz h
  | choose src m k ih => intro Q E p s hz h; exact ⟨h.1, ih _ Q E p _ hz h.2⟩
  | os q _ k ih => intro Q E p s hz h; exact ih _ Q E p _ hz h
  | call c hd _ _ k ih => intro Q E p s hz h; obtain ⟨r, s', hr, h⟩ := h; exact ⟨r, s', hr, ih r Q E p s' (Nat.le_trans hz (runs_gens hr)) h⟩
  | handled own k ih => intro Q E p s hz h; exact ih _ Q E p s hz h
  | genState g k ih => intro Q E p s hz h; obtain ⟨st, hs, h⟩ := h; exact ⟨st, hs, ih _ Q E p s hz h⟩
  | newGen c k ih => intro Q E p s hz h; exact ih _ Q E p _ (Nat.le_trans hz (by simp)) h
  | resume g r _ k ih => intro Q E p s hz h; obtain ⟨res, s', hw, h⟩ := h; exact ⟨res, s', hw, ih res Q E p s' (Nat.le_trans hz (wakes_gens hw)) h⟩
  | yield _ _ _ _ => intro Q E p s _ hw; exact hw
  | stack k ih => intro Q E p s hz h; exact ih _ Q E p s hz h
  | fork _ _ => intro Q E p s _ hw; exact hw
  | thread k ih => intro Q E p s hz h; exact ih _ Q E p s hz h
  | await _ _ _ _ _ => intro Q E p s _ hw; exact hw
theorem wpAny_gens {α : Type} {M : Model} {A : Around} {s : Shared} {t : Sem α} {Q : α → Shared → Prop} {E : Value → Shared → Prop} {n : Nat} (hn : n ≤ s.gens.size) (h : wpAny M A t Q E s) :
    wpAny M A t (fun a s' => n ≤ s'.gens.size ∧ Q a s') E s :=
  fun Γ p hΓ => Sem.wp_mono M Γ t (fun a _ s => id) (fun e _ s x => x.2) p s (wp_gens M Γ n t _ _ p s hn (h Γ p hΓ))
/-- what a walk by all (cont true) or any (cont false) asks of a generator -/
structure GW (prog : Program) (w : World) (A : Around) (I : Addr) (cont : Bool) (St : Nat → Shared → Prop) (Qe Qf : Shared → Prop) : Prop where
  next : ∀ (n : Nat) (s : Shared) (Q : Option Value → Shared → Prop) (E : Value → Shared → Prop), St n s → (∀ s', Qe s' → Q none s') → (∀ s', Qf s' → Q (some (.bool (!cont))) s') → (∀ s' m, m < n → St m s' → Q (some (.bool cont)) s') → wpAny (model prog w) A (pyNext (.ref I)) Q E s
section
variable {prog : Program} {w : World} {A : Around} {E : Value → Shared → Prop} {I : Addr} {St : Nat → Shared → Prop} {Qe Qf : Shared → Prop} {R : Result → Shared → Prop}
theorem all_loop (W : GW prog w A.in1 I true St Qe Qf) (h1 : ∀ s', Qe s' → R (.ok (.ret (.bool true))) s') (h2 : ∀ s', Qf s' → R (.ok (.ret (.bool false))) s') : ∀ (n : Nat) (s : Shared), St n s → codeAny (model prog w) A (.builtin "all.loop" ⟨[.ref I], []⟩) R s := by
  intro n
  induction n using Nat.strongRecOn with
  | _ n ih =>
    intro s hst
    (refine codeAny_builtin F.entry_all_loop ?_)
    (rw [Around.under_plainId F.plain_all_loop _])
    show wpAny _ A.in1 (pyNext (.ref I) >>= _) _ _ s
    refine wpAny_bind (W.next n s _ _ hst (fun s' q => ?_) (fun s' q => ?_) fun s' m hm st => ?_)
    · exact wpAny_bind (wpAny_rule (wpAny_pure (h1 s' q)))
    · refine wpAny_bind (wpAny_holding (wpAny_truthy_bool ?_))
      refine wpAny_bind (wpAny_letGo ?_)
      exact wpAny_bind (wpAny_rule (wpAny_pure (h2 s' q)))
    · refine wpAny_bind (wpAny_holding (wpAny_truthy_bool ?_))
      refine wpAny_bind (wpAny_letGo ?_)
      exact wpAny_pure ⟨plainId_quiet F.plain_all_loop _, ih m hm s' st⟩
theorem any_loop (W : GW prog w A.in1 I false St Qe Qf) (h1 : ∀ s', Qe s' → R (.ok (.ret (.bool false))) s') (h2 : ∀ s', Qf s' → R (.ok (.ret (.bool true))) s') : ∀ (n : Nat) (s : Shared), St n s → codeAny (model prog w) A (.builtin "any.loop" ⟨[.ref I], []⟩) R s := by
  intro n
  induction n using Nat.strongRecOn with
  | _ n ih =>
    intro s hst
    (refine codeAny_builtin F.entry_any_loop ?_)
    (rw [Around.under_plainId F.plain_any_loop _])
    show wpAny _ A.in1 (pyNext (.ref I) >>= _) _ _ s
    refine wpAny_bind (W.next n s _ _ hst (fun s' q => ?_) (fun s' q => ?_) fun s' m hm st => ?_)
    · exact wpAny_bind (wpAny_rule (wpAny_pure (h1 s' q)))
    · refine wpAny_bind (wpAny_holding (wpAny_truthy_bool ?_))
      refine wpAny_bind (wpAny_letGo ?_)
      exact wpAny_bind (wpAny_rule (wpAny_pure (h2 s' q)))
    · refine wpAny_bind (wpAny_holding (wpAny_truthy_bool ?_))
      refine wpAny_bind (wpAny_letGo ?_)
      exact wpAny_pure ⟨plainId_quiet F.plain_any_loop _, ih m hm s' st⟩
theorem call_walk {s : Shared} {Q : Value → Shared → Prop} {cont : Bool} {idn : String} {n : Nat} (hid : idn = if cont then "all" else "any") (W : GW prog w A.in1 I cont St Qe Qf) {g : Nat} (hg : s.heap.IsGen I g) (hst : St n s) (h1 : ∀ s', Qe s' → Q (.bool cont) s') (h2 : ∀ s', Qf s' → Q (.bool (!cont)) s') :
    wpAny (model prog w) A (call (.builtin idn) [.ref I]) Q E s := by
  cases cont with
  | true =>
    simp only [if_true] at hid
    subst hid
    (refine call_function_tree F.kind_all F.plain_all F.entry_all (F.args_all1 _) ?_)
    unfold Builtin.«all»
    (refine wpAny_bind (m := oneArg "all" _) (wpAny_pure ?_))
    refine wpAny_bind (wpAny_pyIter_gen hg ?_)
    exact wpAny_pure ⟨plainId_quiet F.plain_all_loop _, all_loop W h1 h2 n s hst⟩
  | false =>
    simp only [Bool.false_eq_true, if_false] at hid
    subst hid
    (refine call_function_tree F.kind_any F.plain_any F.entry_any (F.args_any1 _) ?_)
    unfold Builtin.«any»
    (refine wpAny_bind (m := oneArg "any" _) (wpAny_pure ?_))
    refine wpAny_bind (wpAny_pyIter_gen hg ?_)
    exact wpAny_pure ⟨plainId_quiet F.plain_any_loop _, any_loop W h1 h2 n s hst⟩
end
/-- between two items nothing happens to the heap -/
def yPr (cont : Bool) (Good Tf : Shared → Prop) : Protocol := fun _ _ v s kap => (v = .bool cont ∧ Good s ∧ ∀ s'' : Shared, s''.heap = s.heap → s''.os = s.os → PyProof.Rows.AllBare s''.gens → s.gens.size ≤ s''.gens.size → kap (.send .none) s'') ∨ (v = .bool (!cont) ∧ Tf s)
theorem bare_set {s : Shared} {g : Nat} {x : GenState} (h : PyProof.Rows.AllBare s.gens) (hx : x.bare = true) : PyProof.Rows.AllBare (s.setGen g x).gens := by
  intro y hy
  (obtain ⟨i, hi, rfl⟩ := Array.mem_iff_getElem.mp hy)
  by_cases e : i = g
  · subst e
    have : (s.setGen i x).gens[i]? = some x := setGen_self (gs := s.gens[i]'(by rw [setGen_size] at hi; exact hi)) (Array.getElem?_eq_getElem _)
    rw [Array.getElem?_eq_getElem hi] at this
    rw [Option.some.inj this]; exact hx
  · have h1 := (GenOnly.setGen s g x).2 i e
    (rw [Array.getElem?_eq_getElem hi] at h1)
    (obtain ⟨hi', e'⟩ := Array.getElem?_eq_some_iff.mp h1.symm)
    rw [← e']; exact h _ (Array.getElem_mem hi')
/-- the generator g at a, so many items at most to come -/
def GSt (prog : Program) (w : World) (A : Around) (cont : Bool) (a : Addr) (g : Nat) (Good Te Tf : Shared → Prop) (n : Nat) (s : Shared) : Prop :=
  s.heap.IsGen a g ∧ s.heap.NoLimit ∧ PyProof.Rows.AllBare s.gens ∧ ∃ gs, s.gens[g]? = some gs ∧ ∀ s'' : Shared, s''.heap = s.heap → s''.os = s.os → PyProof.Rows.AllBare s''.gens → s.gens.size ≤ s''.gens.size →
    gs.Goes (model prog w) A.in1 (fun _ _ r s₁ => r = .ok .next ∧ Te s₁) (yPr cont Good Tf) n (.send .none) s''
theorem gw_of {prog : Program} {w : World} {A : Around} {cont : Bool} {a : Addr} {g : Nat} {Good Te Tf Qe Qf : Shared → Prop} (hh : A.handled = none) (hroom : A.depth < recursionLimit)
    (hGood : ∀ s, Good s → s.heap.IsGen a g ∧ s.heap.NoLimit ∧ PyProof.Rows.AllBare s.gens ∧ g < s.gens.size)
    (hE : ∀ s h' x, Te s → (∀ b o, s.heap.get? b = some o → h'.get? b = some o) → x.bare = true → Qe { s.setGen g x with heap := h' }) (hF : ∀ s x, Tf s → x.bare = true → Qf (s.setGen g x)) :
    GW prog w A a cont (GSt prog w A cont a g Good Te Tf) Qe Qf := ⟨fun n s Q E st q1 q2 q3 => by
  obtain ⟨hg, hl, hb, gs, hgs, hgo⟩ := st
  refine wpAny_pyNext_genexpQ (P := fun _ _ s₁ => Te s₁) (Y := yPr cont Good Tf) (n := n) hh hl hroom hg hgs (hgo _ rfl rfl (bare_set hb rfl) (by rw [setGen_size]; exact Nat.le_refl _)) (fun v s₁ gs' hb' hv => ?_) (fun s₁ hp h' hk => q1 _ (hE s₁ h' _ hp hk rfl))
  rcases hv with ⟨rfl, hgd, hkap⟩ | ⟨rfl, hf⟩
  · obtain ⟨i1, i2, i3, i4⟩ := hGood s₁ hgd
    cases n with
    | zero => exact (hkap s₁ rfl rfl i3 (Nat.le_refl _)).elim
    | succ m =>
      refine q3 _ m (Nat.lt_succ_self m) ⟨i1, i2, bare_set i3 hb', gs', setGen_self (gs := s₁.gens[g]'i4) (Array.getElem?_eq_getElem _), fun s'' e1 e2 e3 e4 => ?_⟩
      exact hkap s'' e1 e2 e3 (by rw [setGen_size] at e4; exact e4)
  · exact q2 _ (hF s₁ gs' hf hb')⟩
end U
end
section
set_option Elab.async false
set_option linter.all false
set_option maxRecDepth 100000
set_option maxHeartbeats 1000000
/-! A generator's own frame as a context. -/
namespace U
open PySem PySem.Spec L2
abbrev gcx (X : Cx) (A' : Around) (s : Shared) (H : Hp) (cenv : Env) (fp : List Addr) : Cx := { X with A := A', s_0 := s, H_0 := H, env := cenv, outer := X.stack, stack := cenv :: X.stack, ex := fp, fn := fun _ => false, pn := [], xe := fun _ _ => False }
theorem gen_start {X : Cx} {pins pn : List (Addr × Obj)} {σ : L2.St} {H : Hp} {s s' : Shared} {scope : Scope} {own : List (Str × Nat)} {fp : List Addr} {A' : Around} {code : Value} {m : Str → Option Value} (I : Inv X pins σ H s) (ok : BlkOk X.N X.env.scope scope own) (hN : X.N.Nodup) (hcell : ∀ y ∈ scope.names, y.2 ≠ .cell) (hfp : ∀ b ∈ fp, FpOk X pins H b ∧ b < s.heap.objs.size)
    (hA : A'.handled = none) (hfr : A'.frames = some (genEnv scope (cloFrom X.env.cells scope.names []) s.heap.objs.size code builtinsNs X.env :: X.stack)) (hn : s'.heap.Ns s.heap.objs.size m) (kp : ∀ b o, s.heap.get? b = some o → s'.heap.get? b = some o) (hos : s'.os = s.os) (hg : PyProof.Rows.AllBare s'.gens)
    (hpn : ∀ p ∈ pn, s'.heap.get? p.1 = some p.2 ∧ s.heap.objs.size < p.1 ∧ ∀ v, p.2.data ≠ .cell v) :
    Inv (gcx X A' s H (genEnv scope (cloFrom X.env.cells scope.names []) s.heap.objs.size code builtinsNs X.env) fp) pn (wipe σ (own.map (·.2))) H s' := by
  have hfree : ∀ y ∈ scope.names, y.2 = .free → ∃ c, X.env.cells.lookup y.1 = some c := fun y hy e => by
    rcases ok.free y hy e with k | k
    · exact I.ok.has _ (.inl k)
    · exact I.ok.has _ (.inr k)
  have cm : ∀ {y c}, (y, c) ∈ cloFrom X.env.cells scope.names [] → X.env.cells.lookup y = some c ∧ c < s.heap.objs.size := fun {y c} hm => by
    rcases cloFrom_mem hm with hm | ⟨h1, rfl⟩
    · cases hm
    · obtain ⟨c, hc⟩ := hfree _ h1 rfl
      rw [hc]
      obtain ⟨w, z⟩ := I.cell _ _ hc
      exact ⟨rfl, z.lt⟩
  have mem : ∀ {y c}, (cloFrom X.env.cells scope.names []).lookup y = some c → X.env.cells.lookup y = some c ∧ c < s.heap.objs.size := fun {y c} e => cm (PySem.mem_of_lookup e)
  have look : ∀ {y}, scope.names.lookup y = some .free → ∃ c, (cloFrom X.env.cells scope.names []).lookup y = some c ∧ X.env.cells.lookup y = some c := fun {y} hl => by
    have hy : (y, NameKind.free) ∈ scope.names := PySem.mem_of_lookup hl
    obtain ⟨c, hc⟩ := hfree _ hy rfl
    exact ⟨c, clo_lookup hy hc, hc⟩
  have okB : (gcx X A' s H (genEnv scope (cloFrom X.env.cells scope.names []) s.heap.objs.size code builtinsNs X.env) fp).Ok := by
    refine ⟨I.ok.mod, ok.kind, I.ok.glob, rfl, Nat.le_refl _, fun y z c e1 e2 => I.ok.inj y z c (mem e1).1 (mem e2).1, fun y hy => ?_, (fun y c z e => absurd z Bool.false_ne_true), fun _ => hA, hfr, .inr ⟨rfl, rfl⟩, fun b hb => ⟨Nat.ne_of_lt (hfp b hb).2, fun y c e z => (hfp b hb).1.2.2.2.2.1 y c (mem e).1 z⟩, I.bs, Nat.le_trans I.ok.bsz I.sz, fun b o e hb => ?_, fun b hb z => ?_, I.stack, I.stkFree⟩
    · rcases hy with hy | hy
      · exact absurd rfl (hcell _ (PySem.mem_of_lookup (show scope.names.lookup y = some .cell from hy)))
      · obtain ⟨c, h1, _⟩ := look hy
        exact ⟨c, h1⟩
    · rcases (hfp b hb).1.2.2.2.1 with z | z
      · exact I.ok.noex b o e z
      · exact absurd (Nat.lt_of_lt_of_le (Heap.lt_size e) (Nat.le_trans I.ok.bsz z)) (Nat.lt_irrefl _)
    · rcases List.mem_cons.mp (I.stkSub b z) with z | z
      · exact (hfp b hb).1.2.1 z
      · exact (hfp b hb).1.2.2.1 z
  refine ⟨okB, hos, hg, Un.kept kp, ⟨m, hn, fun i y av e1 e2 e3 => ?_⟩, fun y c e => ?_, I.hok.fresh (Nat.le_refl _), fun y c e => I.freeC y c (mem e).1, fun p hp => ?_, I.hok.kept kp, by rw [wipe_length]; exact I.len⟩
  · obtain ⟨e2, hne⟩ := wipe_some e2
    have no : ∀ k, scope.names.lookup y = some k → ¬ (k = .local ∨ k = .cell) := fun k e hh => by
      rcases ok.own _ (PySem.mem_of_lookup e) hh with e' | e'
      · obtain ⟨p, hp, hpy⟩ := List.mem_map.mp e'
        have e3 := ok.ix p hp
        have : p.1 = y := hpy
        rw [this] at e3
        exact hne (List.mem_map.mpr ⟨p, hp, nodup_ix hN e3 e1⟩)
      · exact e' (List.mem_of_getElem? e1)
    have hf : scope.names.lookup y = some .free := by
      rcases e3 with e3 | e3 | e3
      · exact absurd (.inl rfl) (no _ e3)
      · exact absurd (.inr rfl) (no _ e3)
      · exact e3
    obtain ⟨m', hn', hl⟩ := I.loc
    have hvis : Vis X.env.scope y := (ok.free _ (PySem.mem_of_lookup hf) rfl).elim (fun k => .inr (.inl k)) (fun k => .inr (.inr k))
    obtain ⟨w, r, q⟩ := hl i y av e1 e2 hvis
    refine ⟨w, r, .inr ⟨.inr hf, ?_⟩⟩
    obtain ⟨c, h1, h2⟩ := look hf
    rcases q with ⟨k, _⟩ | ⟨_, c', e', z⟩
    · have k : X.env.scope.names.lookup y = some .local := k
      rcases ok.free _ (PySem.mem_of_lookup hf) rfl with k' | k' <;> rw [show X.env.scope.names.lookup y = _ from k'] at k <;> cases k
    · rw [h2] at e'; cases e'
      exact ⟨c, h1, z.keeps kp⟩
  · obtain ⟨w, z⟩ := I.cell y c (mem e).1
    exact ⟨w, z.keeps kp⟩
  · have hp : p ∈ pn := hp
    obtain ⟨h1, h2, h3⟩ := hpn p hp
    refine ⟨h1, I.hok.fresh (Nat.le_of_lt h2), Nat.ne_of_gt h2, fun z => ?_, h3⟩
    have hlt : p.1 < s.heap.objs.size := by
      rcases List.mem_cons.mp (I.stkSub p.1 z) with z | z
      · rw [z]; exact I.lt
      · obtain ⟨_, o, ho, _⟩ := I.ok.funs.mem z
        exact Nat.lt_of_lt_of_le (Heap.lt_size ho) I.sz
    exact absurd (Nat.lt_trans hlt h2) (Nat.lt_irrefl _)
end U
end
section
set_option Elab.async false
set_option linter.all false
set_option maxRecDepth 100000
set_option maxHeartbeats 1000000
/-! all(..), any(..) of a generator with one clause. -/
namespace U
open PySem PySem.Spec L2
theorem inv_same {X : Cx} {pins : List (Addr × Obj)} {σ : L2.St} {H : Hp} {s s' : Shared} (I : Inv X pins σ H s) (e1 : s'.heap = s.heap) (e2 : s'.os = s.os) (hb : PyProof.Rows.AllBare s'.gens) : Inv X pins σ H s' := by
  obtain ⟨h', g', d', t', o'⟩ := s'
  have e1 : h' = s.heap := e1
  have e2 : o' = s.os := e2
  subst e1; subst e2
  exact ⟨I.ok, I.os, hb, I.base, I.loc, I.cell, I.free, I.freeC, I.pin, I.hok, I.len⟩
def GGood (X : Cx) (pn : List (Addr × Obj)) (gn : Nat) (s : Shared) : Prop := (∃ σ H, Inv X pn σ H s) ∧ gn < s.gens.size
def GFin (X : Cx) (pn : List (Addr × Obj)) (Q : Hp → Prop) (s : Shared) : Prop := ∃ σ H, Inv X pn σ H s ∧ Q H
def gTurn (cont : Bool) (J : It) (g : TG) (te : TE) (σ : L2.St) (vs : List Nat) (W : Nat → Nat → Hp → Prop) (Qe Qf : Hp → Prop) : Prop := ∀ i m H, W i m H → (J.stop i H ∧ Qe H) ∨ (J.go i H ∧ ∃ Nx : Hp → Prop, (∀ H', Nx H' → ∃ m', m' < m ∧ W (i + 1) m' H') ∧
  ∀ x H', J.yld i H x H' → g x (wipe σ vs) H' fun σ2 H2 => wipe σ2 vs = wipe σ vs ∧ te σ2 H2 fun y H3 => (y = .bl cont ∧ Nx H3) ∨ (y = .bl (!cont) ∧ Qf H3))
theorem seg_ga {X : Cx} {A : Around} {cont : Bool} {elt tg iter : Expr} {scope : Scope} {pos : Pos} {it : Addr} {gn : Nat} {cenv : Env} {fp : List Addr} {tn : Nat → Heap → Prop} {J : It} {s3 : Shared} {H3 : Hp} {pn : List (Addr × Obj)} {σ : L2.St} {vs : List Nat} {W : Nat → Nat → Hp → Prop} {Qe Qf : Hp → Prop} {g : TG} {te : TE}
    (hc : X.calm = true) (hco : cenv.scope.isCoroutine = false) (T : Turn X.prog X.w X.K tg J fp it tn) (hpn : ∀ p ∈ pn, p.1 ∉ fp)
    (pg : PG (gcx X (A.over (.compLoop (.GeneratorExp elt [⟨tg, iter, [], 0⟩] scope pos) 0 (.ref it) .none cenv) []) s3 H3 cenv fp) tg g)
    (pe : PE (gcx X (A.over (.compLoop (.GeneratorExp elt [⟨tg, iter, [], 0⟩] scope pos) 0 (.ref it) .none cenv) []) s3 H3 cenv fp) elt te)
    (turn : gTurn cont J g te σ vs W Qe Qf) :
    ∀ (n i m : Nat) (H : Hp) (s₀ s : Shared), m < n → W i m H → Inv (gcx X (A.over (.compLoop (.GeneratorExp elt [⟨tg, iter, [], 0⟩] scope pos) 0 (.ref it) .none cenv) []) s3 H3 cenv fp) pn (wipe σ vs) H s → tn i s.heap → (∀ b ∈ fp, H b = none) → gn < s.gens.size →
      Seg (model X.prog X.w) A (fun _ _ r s₁ => r = .ok .next ∧ GFin (gcx X (A.over (.compLoop (.GeneratorExp elt [⟨tg, iter, [], 0⟩] scope pos) 0 (.ref it) .none cenv) []) s3 H3 cenv fp) pn Qe s₁)
        (yPr cont (GGood (gcx X (A.over (.compLoop (.GeneratorExp elt [⟨tg, iter, [], 0⟩] scope pos) 0 (.ref it) .none cenv) []) s3 H3 cenv fp) pn gn) (GFin (gcx X (A.over (.compLoop (.GeneratorExp elt [⟨tg, iter, [], 0⟩] scope pos) 0 (.ref it) .none cenv) []) s3 H3 cenv fp) pn Qf)) n s₀
        (.compLoop (.GeneratorExp elt [⟨tg, iter, [], 0⟩] scope pos) 0 (.ref it) .none cenv) ((model X.prog X.w).den (.compLoop (.GeneratorExp elt [⟨tg, iter, [], 0⟩] scope pos) 0 (.ref it) .none cenv)) [] s := by
  generalize hXg : gcx X (A.over (.compLoop (.GeneratorExp elt [⟨tg, iter, [], 0⟩] scope pos) 0 (.ref it) .none cenv) []) s3 H3 cenv fp = Xg at pg pe ⊢
  have hXA : Xg.A = A.over (.compLoop (.GeneratorExp elt [⟨tg, iter, [], 0⟩] scope pos) 0 (.ref it) .none cenv) [] := by rw [← hXg]
  have e1 : Xg.prog = X.prog := by rw [← hXg]
  have e2 : Xg.w = X.w := by rw [← hXg]
  have e3 : Xg.K = X.K := by rw [← hXg]
  have e4 : Xg.calm = true := by rw [← hXg]; exact hc
  have e5 : Xg.ex = fp := by rw [← hXg]
  have e6 : Xg.pn = [] := by rw [← hXg]
  have e7 : Xg.env = cenv := by rw [← hXg]
  have e8 : Xg.xe = fun _ _ => False := by rw [← hXg]
  have stat : ∀ {σ' : L2.St} {H' : Hp} {s' : Shared}, Inv Xg pn σ' H' s' → (∀ b ∈ fp, H' b = none) → ∀ b ∈ fp, FpOk Xg pn H' b := fun {σ' H' s'} I' hn b hb =>
    ⟨hn b hb, (I'.ok.exf b (by rw [e5]; exact hb)).1, I'.ok.exfs b (by rw [e5]; exact hb), .inl (by rw [e5]; exact hb), fun x c e => (I'.ok.exf b (by rw [e5]; exact hb)).2 x c e, fun p hp z => by
      rw [e6] at hp
      exact hpn p hp (by rw [z]; exact hb)⟩
  intro n
  induction n with
  | zero => intro i m H s₀ s h; exact absurd h (Nat.not_lt_zero _)
  | succ n ih =>
    intro i m H s₀ s hm w I st nf hgn
    show Seg _ A _ _ _ s₀ _ ((compTurn (.GeneratorExp elt [⟨tg, iter, [], 0⟩] scope pos) 0 (.ref it) .none cenv).onRaise (leaving cenv)) [] s
    (rw [compTurn_gen, Sem.onRaise_eq_wrap])
    (refine seg_bind_wrap (wpAny_standAt ?_))
    rcases turn i m H w with ⟨stop, q⟩ | ⟨go, Nx, hNx, step⟩
    · have td := T.done Xg e1 e2 e3 e4 i pn s _ H (fun _ _ => False) I (stat I nf) st stop
      rw [hXA] at td
      refine seg_bind_wrap (thnF td fun r s1 ⟨hr, I1⟩ => ?_)
      subst hr
      exact seg_end (.ok .next) ⟨rfl, _, H, I1, q⟩
    · have ti := wpAny_gens hgn (T.item Xg e1 e2 e3 e4 i pn s _ H (fun _ _ => False) I (stat I nf) st go)
      rw [hXA] at ti
      refine seg_bind_wrap (thnF ti fun r s1 ⟨g1, u, hr, h1⟩ => ?_)
      subst hr
      refine seg_bind_wrap (thnF (wpAny_gens g1 h1) fun _ s2 ⟨g2, x, H2, I2, r2, y2, st2, n2⟩ => ?_)
      have I2' := I2.pinned (stat I2 n2) (T.obj _ _ st2)
      have ta := wpAny_gens g2 (pg _ s2 _ H2 x u _ I2' r2 (step x H2 y2))
      rw [hXA, e7, e8, e1, e2] at ta
      refine seg_bind_wrap (thnF ta fun _ s4 ⟨g4, σ4, H4, I4, hw4, q4⟩ => ?_)
      refine seg_bind_wrap (wpAny_tests_nil ?_)
      simp only [if_true]
      (have hy : ∀ v, yieldOut cenv v = yieldValue v := fun v => by simp only [yieldOut, hco, Bool.false_eq_true, if_false])
      simp only [hy]
      (rw [Sem.bind_eq_wrap', Sem.bind_eq_wrap', Sem.wrap_wrap, Sem.wrap_wrap])
      have te' := wpAny_gens g4 (pe _ s4 σ4 H4 _ I4 q4)
      rw [hXA, e7, e8, e1, e2] at te'
      refine seg_wrap (thnF te' fun v s5 ⟨g5, y, H5, I5, r5, q5⟩ => ?_)
      refine seg_at (seg_yield rfl rfl rfl ?_)
      rcases q5 with ⟨rfl, nx⟩ | ⟨rfl, qf⟩
      · obtain rfl : v = .bool cont := r5
        refine .inl ⟨rfl, ⟨⟨_, _, I5.unpinned⟩, g5⟩, fun s'' a1 a2 a3 a4 => ?_⟩
        obtain ⟨m', hm', w'⟩ := hNx H5 nx
        have I6 := inv_same I5 a1 a2 a3
        have pin' : ∀ b ∈ fp, ∀ o, s2.heap.get? b = some o → s''.heap.get? b = some o ∧ H5 b = none := fun b hb o e =>
          let z := I6.pin (b, o) (List.mem_append_right _ (List.mem_append_right _ (mem_pinsAt hb e)))
          ⟨z.1, z.2.1⟩
        have hl : (wipe σ vs).length = σ4.length := by rw [← hw4, wipe_length]
        refine seg_again rfl (ih (i + 1) m' H5 s'' s'' (by omega) w' (I6.unpinned.weak hl (fun j v e => ?_)) (T.keep _ _ _ st2 fun b hb o e => (pin' b hb o e).1) (fun b hb => ?_) (Nat.lt_of_lt_of_le g5 a4))
        · rw [← hw4] at e
          exact (wipe_some e).1
        · obtain ⟨o, e, _⟩ := T.obj _ _ st2 b hb
          exact (pin' b hb o e).2
      · obtain rfl : v = .bool (!cont) := r5
        exact .inr ⟨rfl, _, _, I5.unpinned, qf⟩
end U
end
section
set_option Elab.async false
set_option linter.all false
set_option maxRecDepth 100000
set_option maxHeartbeats 1000000
/-! all(..), any(..) of a generator with one clause: the rule. -/
namespace U
open PySem PySem.Spec L2
def tGA (cont : Bool) (P : Addr) (wi : TI) (g : TG) (te : TE) (vs : List Nat) : TE := fun σ H Q => wi σ H fun J H1 => ∃ ps : Array Value, H1 P = some (.tbl ps) ∧ TriplesOk ps.toList ∧ ∀ ps' : Array Value, TriplesOk ps'.toList →
  ∃ W : Nat → Nat → Hp → Prop, (∃ m, W 0 m (upd H1 P (.tbl ps'))) ∧ gTurn cont J g te σ vs W (Q (.bl cont)) (Q (.bl (!cont)))
theorem seg_gaS {prog : Program} {w : World} {A : Around} {R : GenEnd} {Y : Protocol} {n : Nat} {elt tg iter : Expr} {scope : Scope} {pos : Pos} {it : Addr} {cenv : Env} {s₀ s : Shared} (self : ∀ (A : Around) (Q : Value → Shared → Prop) (E : Value → Shared → Prop), Q (.ref it) s → wpAny (model prog w) A (pyIter (.ref it)) Q E s)
    (loop : Seg (model prog w) A R Y n s₀ (.compLoop (.GeneratorExp elt [⟨tg, iter, [], 0⟩] scope pos) 0 (.ref it) .none cenv) ((model prog w).den (.compLoop (.GeneratorExp elt [⟨tg, iter, [], 0⟩] scope pos) 0 (.ref it) .none cenv)) [] s) :
    Seg (model prog w) A R Y n s₀ (.compStart (.GeneratorExp elt [⟨tg, iter, [], 0⟩] scope pos) 0 (.ref it) .none cenv) ((model prog w).den (.compStart (.GeneratorExp elt [⟨tg, iter, [], 0⟩] scope pos) 0 (.ref it) .none cenv)) [] s := by
  show Seg _ A _ _ _ s₀ _ ((compStart (.GeneratorExp elt [⟨tg, iter, [], 0⟩] scope pos) 0 (.ref it) .none cenv).onRaise (leaving cenv)) [] s
  unfold compStart
  rw [Sem.onRaise_eq_wrap]
  (show Seg _ A _ _ _ s₀ _ ((ask >>= _).wrap _ _ _ _) [] s)
  (refine seg_bind_wrap (wpAny_askSetting ?_))
  split
  · exact seg_again rfl loop
  · first
      | exact seg_bind_wrap (wpAny_rule (seg_bind_wrap (wpAny_standAt (seg_bind_wrap (self _ _ _ (seg_again rfl loop))))))
      | (refine seg_bind_wrap (wpAny_rule ?_); show Seg _ A _ _ _ s₀ _ ((standAt iter.pos >>= _).wrap _ _ _ _) [] s; exact seg_bind_wrap (wpAny_standAt (seg_bind_wrap (self _ _ _ (seg_again rfl loop)))))
theorem room_ga {k : Nat} {A : Around} {elt tg iter : Expr} {scope : Scope} {pos : Pos} {it : Addr} {cenv : Env} (r : Room (k + 1) A) : Room k (A.in1.in1.over (.compLoop (.GeneratorExp elt [⟨tg, iter, [], 0⟩] scope pos) 0 (.ref it) .none cenv) []) :=
  ⟨r.hd, by have := r.dp; show A.depth + 1 + 3 * k + 5 < _; omega, by have := r.un; show A.units + 2 + 3 + 16 * k + 200 < _; omega, by simp [Around.over, Code.guards, Code.isGuard, guardsOf, pushGuards, r.gd]⟩
theorem pe_ga {X : Cx} {cont : Bool} {nm : Str} {idn : String} {k : Nat} {c P bm : Addr} {ob : Obj} {elt tg iter : Expr} {p gpos pos : Pos} {scope : Scope} {own : List (Str × Nat)} {wi : TI} {g : TG} {te : TE} (hid : idn = if cont then "all" else "any") (hr : Room (k + 1) X.A) (hcalm : X.calm = true) (hN : X.N.Nodup) (hi : PI X tg iter wi) (ok : BlkOk X.N X.env.scope scope own)
    (hg' : ∀ (A' : Around) (s : Shared) (H : Hp) (C : Addr) (cl : List (Str × Addr)) (code : Value) (fp : List Addr), PG (gcx X A' s H (genEnv scope cl C code builtinsNs X.env) fp) tg g)
    (he' : ∀ (A' : Around) (s : Shared) (H : Hp) (C : Addr) (cl : List (Str × Addr)) (code : Value) (fp : List Addr), Room k A' → PE (gcx X A' s H (genEnv scope cl C code builtinsNs X.env) fp) elt te)
    (hcode : X.env.code = .ref c) (hCA : CodeAt X.base c P) (hB : PyProof.Rows.BMod X.base mainGlobals X.mg bm ob)
    (hm : X.mg nm = none) (hv : bootBuiltins nm = some (.builtin idn)) (hg : L2.Gl X nm) (hn : nm ≠ "__name__") (hdb : (nm == ("__debug__" : Str)) = false)
    (hco : scope.isCoroutine = false) (hcell : ∀ y ∈ scope.names, y.2 ≠ .cell) (h0 : scope.names.lookup (".0" : Str) = some NameKind.local)
    (hs : ∀ v, genFold iter X.env v = pure v) (he : starEach [.GeneratorExp elt [⟨tg, iter, [], 0⟩] scope gpos] X.env = (false, eval (.GeneratorExp elt [⟨tg, iter, [], 0⟩] scope gpos) X.env) :: starEach [] X.env) (hpl : (backTo pos (starEach [] X.env)).any (·.1) = false) :
    PE X (.Call (.Name nm p) [.GeneratorExp elt [⟨tg, iter, [], 0⟩] scope gpos] [] pos) (tGA cont P wi g te (own.map (·.2))) := by
  intro pins s σ H Q I h
  have hclo : ∀ y ∈ scope.names, y.2 = .free → ∃ c, X.env.cells.lookup y.1 = some c := fun y hy e => by
    rcases ok.free y hy e with k | k
    · exact I.ok.has _ (.inl k)
    · exact I.ok.has _ (.inr k)
  refine wpAny_Call_Name_kw (ld_blt I hg hm hv ?_ hn hdb)
  refine PyProof.Rows.callWith_builtin1 ?_ he hpl
  rw [he]
  show wpAny _ _ (spliced ((false, eval (.GeneratorExp elt [⟨tg, iter, [], 0⟩] scope gpos) X.env) :: backTo pos (starEach [] X.env))) _ _ s
  refine Calls.spliced_cons ?_
  refine wpAny_GeneratorExp_make hco (closure_ok hclo) hcell h0 ok.kind hr.depth ?_ hs
  refine thn (hi pins s σ H _ I h) fun xv s1 h1 => thn h1 fun itv s2 h2 => ?_
  obtain ⟨it, fp, tn, J, H2, e, I2, T, st2, f2, ps, hP, htri, q⟩ := h2
  subst e
  refine ⟨I2.nolimit, ?_⟩
  have hPo : s2.heap.get? P = some (TabObj ps) := I2.hok P _ hP
  have nP : ∀ b, H2 b = none → b ≠ P := fun b q z => by rw [z, hP] at q; cases q
  refine genexprCode_ok hcode (hCA.keep fun b o e => (I2.bs b o e).1) (ps := ps) hPo htri fun code ps' h3 tk3 htri' hmore hP3 hx3 hsz3 => ?_
  have I3 : Inv X pins σ (upd H2 P (.tbl ps')) { s2 with heap := h3, toks := tk3 } := gen_step I2 hP hmore rfl I2.bare (fun b o hb e => hx3 b o hb e) hP3
  obtain ⟨W, ⟨m0, w0⟩, turn⟩ := q ps' htri'
  have M3 := hB.keeps I3.bk
  refine wpAny_builtinsFor (by rw [I3.ok.glob]; exact M3.ns) M3.name M3.ne M3.obj M3.cls M3.dict M3.data ?_
  intro h' hn' hs'
  refine Calls.spliced_nil ?_
  have sz : ∀ b ∈ fp, b < s2.heap.objs.size ∧ b ≠ P := fun b hb => by
    obtain ⟨o, e, _⟩ := T.obj _ _ st2 b hb
    exact ⟨Heap.lt_size e, nP b (f2 b hb).1⟩
  have f3 : ∀ b ∈ fp, FpOk X pins (upd H2 P (.tbl ps')) b ∧ b < h3.objs.size := fun b hb =>
    ⟨⟨by rw [upd_ne (sz b hb).2]; exact (f2 b hb).1, (f2 b hb).2⟩, Nat.lt_of_lt_of_le (sz b hb).1 hsz3⟩
  have hsz : h'.objs.size = h3.objs.size + 1 := by rw [hs'.1, Heap.size_push]
  have keep' : ∀ b o, h3.get? b = some o → h'.get? b = some o := fun b o e => hs'.extBut b o (Nat.ne_of_lt (Heap.lt_size e)) (Heap.get?_push_of_some _ e)
  generalize hgo : ({ cls := .type "generator", data := .fields #[.int s2.gens.size 0, .str "<genexpr>" (tk3 + 1), .str (X.env.qual ++ "<genexpr>") (tk3 + 1 + 1)] } : Obj) = gob
  have kp : ∀ b o, h3.get? b = some o → (h'.push gob).get? b = some o := fun b o e => Heap.get?_push_of_some _ (keep' b o e)
  have hgd : ∀ v, gob.data ≠ .cell v := fun v z => by rw [← hgo] at z; cases z
  generalize hce : genEnv scope (cloFrom X.env.cells scope.names []) h3.objs.size code builtinsNs X.env = ce
  have hcoc : ce.scope.isCoroutine = false := by rw [← hce]; exact hco
  have hgen0 : (h'.push gob).IsGen h'.objs.size s2.gens.size := by rw [← hgo]; exact ⟨_, _, _, Heap.get?_push_size _ rfl, rfl, rfl, rfl⟩
  have hbare : PyProof.Rows.AllBare (s2.gens.push (.fresh (.compStart (.GeneratorExp elt [⟨tg, iter, [], 0⟩] scope gpos) 0 (.ref it) .none ce))) := I2.bare.push rfl
  have I5 := gen_start (A' := X.A.in1.in1.over (.compLoop (.GeneratorExp elt [⟨tg, iter, [], 0⟩] scope gpos) 0 (.ref it) .none ce) []) (pn := [(h'.objs.size, gob)]) (m := fun y => if y = ".0" then some (.ref it) else none)
    (s' := { s2 with gens := s2.gens.push (.fresh (.compStart (.GeneratorExp elt [⟨tg, iter, [], 0⟩] scope gpos) 0 (.ref it) .none ce)), toks := tk3 + 1 + 1 + 1, heap := h'.push gob }) (code := code) I3 ok hN hcell f3 hr.hd
    (by rw [← hce]; simp [Around.over, Code.envs, Code.isFrame, Code.env?, envsOf, pushEnvs, I3.ok.frames]) (hn'.push _) kp rfl hbare
    (fun p hp => by rw [List.mem_singleton.mp hp]; exact ⟨Heap.get?_push_size _ (by rw [← hgo]; rfl), by show h3.objs.size < h'.objs.size; omega, hgd⟩)
  have pg := hg' (X.A.in1.in1.over (.compLoop (.GeneratorExp elt [⟨tg, iter, [], 0⟩] scope gpos) 0 (.ref it) .none ce) []) { s2 with heap := h3, toks := tk3 } (upd H2 P (.tbl ps')) h3.objs.size (cloFrom X.env.cells scope.names []) code fp
  have pe := he' (X.A.in1.in1.over (.compLoop (.GeneratorExp elt [⟨tg, iter, [], 0⟩] scope gpos) 0 (.ref it) .none ce) []) { s2 with heap := h3, toks := tk3 } (upd H2 P (.tbl ps')) h3.objs.size (cloFrom X.env.cells scope.names []) code fp (room_ga hr)
  have I5 : Inv (gcx X (X.A.in1.in1.over (.compLoop (.GeneratorExp elt [⟨tg, iter, [], 0⟩] scope gpos) 0 (.ref it) .none ce) []) { s2 with heap := h3, toks := tk3 } (upd H2 P (.tbl ps')) (genEnv scope (cloFrom X.env.cells scope.names []) h3.objs.size code builtinsNs X.env) fp) [(h'.objs.size, gob)] (wipe σ (own.map (·.2))) (upd H2 P (.tbl ps')) _ := I5
  rw [hce] at I5 pg pe
  have hpn : ∀ p ∈ [(h'.objs.size, gob)], p.1 ∉ fp := fun p hp z => by
    rw [List.mem_singleton.mp hp] at z
    have := (f3 _ z).2
    have : h'.objs.size < h3.objs.size := this
    omega
  have seg := fun (s'' : Shared) (e1 : s''.heap = h'.push gob) (e2 : s''.os = s2.os) (e3 : PyProof.Rows.AllBare s''.gens) (e4 : s2.gens.size < s''.gens.size) =>
    seg_ga (gn := s2.gens.size) hcalm hcoc T hpn pg pe turn (m0 + 1) 0 m0 _ s'' s'' (Nat.lt_succ_self _) w0 (inv_same I5 e1 e2 e3) (T.keep _ _ _ st2 fun b hb o e => by rw [e1]; exact kp b o (hx3 b o (sz b hb).2 e)) (fun b hb => (f3 b hb).1.1) e4
  have out : ∀ (bb : Bool) (s' : Shared), GFin (gcx X (X.A.in1.in1.over (.compLoop (.GeneratorExp elt [⟨tg, iter, [], 0⟩] scope gpos) 0 (.ref it) .none ce) []) { s2 with heap := h3, toks := tk3 } (upd H2 P (.tbl ps')) ce fp) [(h'.objs.size, gob)] (Q (.bl bb)) s' → ∀ (hh : Heap) (gg : Array GenState), (∀ b o, s'.heap.get? b = some o → hh.get? b = some o) → PyProof.Rows.AllBare gg → EP X pins σ Q (.bool bb) { s' with heap := hh, gens := gg } := fun bb s' ⟨σ', H', I', q'⟩ hh gg hk hb =>
    ⟨.bl bb, H', I3.call' (ch := fp) I'.os (I'.base.trans (Un.kept hk)) (I'.hok.kept hk) hb (fun b hb => ⟨(f3 b hb).1.2.2.2.1, (f3 b hb).1.2.1, (f3 b hb).1.2.2.2.2.1, (f3 b hb).1.2.2.2.2.2⟩), rfl, q'⟩
  have W' := gw_of (prog := X.prog) (w := X.w) (A := X.A.in1) (cont := cont) (a := h'.objs.size) (g := s2.gens.size) (Good := GGood (gcx X (X.A.in1.in1.over (.compLoop (.GeneratorExp elt [⟨tg, iter, [], 0⟩] scope gpos) 0 (.ref it) .none ce) []) { s2 with heap := h3, toks := tk3 } (upd H2 P (.tbl ps')) ce fp) [(h'.objs.size, gob)] s2.gens.size)
    (Te := GFin (gcx X (X.A.in1.in1.over (.compLoop (.GeneratorExp elt [⟨tg, iter, [], 0⟩] scope gpos) 0 (.ref it) .none ce) []) { s2 with heap := h3, toks := tk3 } (upd H2 P (.tbl ps')) ce fp) [(h'.objs.size, gob)] (Q (.bl cont)))
    (Tf := GFin (gcx X (X.A.in1.in1.over (.compLoop (.GeneratorExp elt [⟨tg, iter, [], 0⟩] scope gpos) 0 (.ref it) .none ce) []) { s2 with heap := h3, toks := tk3 } (upd H2 P (.tbl ps')) ce fp) [(h'.objs.size, gob)] (Q (.bl (!cont))))
    (Qe := EP X pins σ Q (.bool cont)) (Qf := EP X pins σ Q (.bool (!cont))) hr.hd hr.depth
    (fun s' ⟨⟨σ', H', I'⟩, hlt⟩ => ⟨by
      have e := (I'.pin (h'.objs.size, gob) (by simp)).1
      rw [← hgo] at e
      exact ⟨_, _, _, e, rfl, rfl, rfl⟩, I'.nolimit, I'.bare, hlt⟩)
    (fun s' hh x t hk hx => out cont s' t hh _ hk (bare_set (let ⟨_, _, I', _⟩ := t; I'.bare) hx)) (fun s' x t hx => out (!cont) s' t s'.heap _ (fun _ _ e => e) (bare_set (let ⟨_, _, I', _⟩ := t; I'.bare) hx))
  have st0 : GSt X.prog X.w X.A.in1 cont h'.objs.size s2.gens.size (GGood (gcx X (X.A.in1.in1.over (.compLoop (.GeneratorExp elt [⟨tg, iter, [], 0⟩] scope gpos) 0 (.ref it) .none ce) []) { s2 with heap := h3, toks := tk3 } (upd H2 P (.tbl ps')) ce fp) [(h'.objs.size, gob)] s2.gens.size)
    (GFin (gcx X (X.A.in1.in1.over (.compLoop (.GeneratorExp elt [⟨tg, iter, [], 0⟩] scope gpos) 0 (.ref it) .none ce) []) { s2 with heap := h3, toks := tk3 } (upd H2 P (.tbl ps')) ce fp) [(h'.objs.size, gob)] (Q (.bl cont)))
    (GFin (gcx X (X.A.in1.in1.over (.compLoop (.GeneratorExp elt [⟨tg, iter, [], 0⟩] scope gpos) 0 (.ref it) .none ce) []) { s2 with heap := h3, toks := tk3 } (upd H2 P (.tbl ps')) ce fp) [(h'.objs.size, gob)] (Q (.bl (!cont)))) (m0 + 1)
    { s2 with gens := s2.gens.push (.fresh (.compStart (.GeneratorExp elt [⟨tg, iter, [], 0⟩] scope gpos) 0 (.ref it) .none ce)), toks := tk3 + 1 + 1 + 1, heap := h'.push gob } :=
    ⟨hgen0, I5.nolimit, hbare, _, Array.getElem?_push_size .., fun s'' e1 e2 e3 e4 => ⟨rfl, seg_gaS (fun A Q E q => T.self A 0 s'' Q E (T.keep _ _ _ st2 fun b hb o e => by rw [e1]; exact kp b o (hx3 b o (sz b hb).2 e)) q) (seg s'' e1 e2 e3 (by
      have : (s2.gens.push (.fresh (.compStart (.GeneratorExp elt [⟨tg, iter, [], 0⟩] scope gpos) 0 (.ref it) .none ce))).size ≤ s''.gens.size := e4
      rw [Array.size_push] at this
      omega))⟩⟩
  exact call_walk hid W' hgen0 st0 (fun s' q => q) (fun s' q => q)
end U
end
section
set_option Elab.async false
set_option linter.all false
set_option maxRecDepth 100000
/-! Small tables of small whole numbers never give way. -/
namespace U
open PySem
/-! ### a place among rising ones -/
/-! ### pigeons -/
/-! ### where a search goes -/
def start (mask h : Nat) : SetTable.Probe := { j := h % (mask + 1), more := SetTable.runEnd mask (h % (mask + 1)) - h % (mask + 1), i := h % (mask + 1), perturb := h, dummy := none }
def Msk (m : Nat) : Prop := m = 7 ∨ m = 31 ∨ m = 127
/-- a small table of small numbers -/
structure TOk (L : Bool) (t : SetTable) (n : Nat) : Prop where
  msk : Msk t.mask
  dum : t.dummies = #[]
  ris : t.place.toList.Pairwise (· < ·)
  le : ∀ j ∈ t.place.toList, j ≤ t.mask
  sz : t.place.size = n
  led : t.led = L
  pl : t.plain = true
/-! ### laid anew -/
/-- owners so far -/
structure Own (mask : Nat) (owner : Array (Option Nat)) (k : Nat) : Prop where
  sz : owner.size = mask + 1
  pm : (owner.toList.filterMap id).Perm (List.range k)
end U
end
section
set_option Elab.async false
set_option linter.all false
set_option maxRecDepth 100000
set_option maxHeartbeats 1000000
/-! A set of small whole numbers: made of a list, walked, sorted. -/
namespace U
open PySem PySem.Spec PyProof.Rows
def ledOf (w : World) : Bool := !w.params.followText "set-order"
def Small (e : Int × Value) : Prop := 0 ≤ e.1 ∧ e.1 < 64 ∧ ∃ t : Tok, e.2 = .int e.1 t
structure SetIs (w : World) (o : Obj) (es : Array (Int × Value)) (ep : Nat) (t : SetTable) : Prop where
  eq : o = { cls := .type "set", dict := none, data := .set es ep t }
  tok : TOk (ledOf w) t es.size
  few : es.size * 5 < t.mask * 3
  small : ∀ e ∈ es.toList, Small e
  nodup : (es.toList.map (·.1)).Nodup
section
variable {prog : Program} {w : World} {A : Around} {E : Value → Shared → Prop} {s : Shared} {a : Addr}
theorem stored {o : Obj} {es es' : Array (Int × Value)} {ep : Nat} {t t' : SetTable} {h : Heap} (e : o = { cls := .type "set", dict := none, data := .set es ep t }) (ho : h.get? a = some o) :
    (h.update a (Obj.putSet es' t')).get? a = some { cls := .type "set", dict := none, data := .set es' (ep + 1) t' } := by
  subst e
  exact Heap.get?_update_self (Obj.putSet es' t') ho rfl
end
end U
end
section
set_option Elab.async false
set_option linter.all false
set_option maxRecDepth 100000
set_option maxHeartbeats 3200000
namespace U
open PySem PySem.Spec PyProof.Rows
section
variable {prog : Program} {w : World} {A : Around} {E : Value → Shared → Prop} {s : Shared}
end
end U
end
section
set_option Elab.async false
set_option linter.all false
set_option maxRecDepth 100000
set_option maxHeartbeats 1000000
namespace U
open PySem PySem.Spec PyProof.Rows PySem.W
/-! ### the order of a walk -/
def slotAt (w : World) (t : SetTable) (i : Nat) : Nat := if w.params.followText "set-order" then 0 else match i with
  | 0 => 0
  | i + 1 => t.place.getD i 0 + 1
section
variable {prog : Program} {w : World} {A : Around} {E : Value → Shared → Prop} {s : Shared} {a I : Addr} {es : Array (Int × Value)} {ep : Nat} {t : SetTable}
def SetAt (w : World) (h : Heap) (a : Addr) (es : Array (Int × Value)) (ep : Nat) (t : SetTable) : Prop := ∃ o, h.get? a = some o ∧ SetIs w o es ep t
def IterAt (w : World) (h : Heap) (I a : Addr) (n ep : Nat) (t : SetTable) (i : Nat) : Prop := ∃ o, h.get? I = some o ∧ o.cls = .type "set_iterator" ∧ o.data = .fields #[.int (slotAt w t i) 0, .int i 0, .ref a, .int n 0, .int ep 0]
theorem SetAt.typeIs (x : SetAt w s.heap a es ep t) : s.TypeIs (.ref a) "set" := let ⟨o, ho, S⟩ := x; ⟨o, ho, by rw [S.eq]⟩
theorem IterAt.typeIs {n i : Nat} (x : IterAt w s.heap I a n ep t i) : s.TypeIs (.ref I) "set_iterator" := let ⟨o, ho, hc, _⟩ := x; ⟨o, ho, hc⟩
end
end U
end
section
set_option Elab.async false
set_option linter.all false
set_option maxRecDepth 100000
set_option maxHeartbeats 1000000
namespace U
open PySem PySem.Spec PyProof.Rows PySem.W
section
variable {prog : Program} {w : World} {A : Around} {E : Value → Shared → Prop} {s : Shared} {a I : Addr} {es : Array (Int × Value)} {ep : Nat} {t : SetTable}
end
end U
end
section
set_option Elab.async false
set_option linter.all false
set_option maxRecDepth 100000
set_option maxHeartbeats 1000000
namespace U
open PySem PySem.Spec L2 PyProof.Rows
section
open PySem.W
variable {prog : Program} {w : World} {A : Around} {E : Value → Shared → Prop} {s : Shared} {T : String} {r d : Addr} {n : Nat} {P : Nat → Value → Prop} {Ok : Heap → Prop}
end
section
variable {X : Cx}
end
/-! ### sorted(set(e)) -/
section
variable {G : GG} {X : Cx} {e : Expr} {fs : ULf} {B : List Nat} {pos p p1 p2 : Pos}
end
end U
end
section
set_option Elab.async false
set_option linter.all false
set_option maxRecDepth 100000
set_option maxHeartbeats 1000000
/-! The head: the script, and the tables of code of the defs that have generators. -/
namespace U
open PySem PySem.Spec PyProof.Rows L2
/-- a def's name, its function, its code, its table -/
abbrev GQ := Str × Addr × Addr × Addr
/-- a method's function, by its class -/
def MQ (K : PySem.W.Frag) (mg : Str → Option Value) (q : GQ) : Prop := q.1 = "Walker.around" ∧ ∃ C, mg "Walker" = some (.ref C) ∧ PySem.W.findIn K (.ref C) "around" = some (some (.ref q.2.1))
structure GT (K : PySem.W.Frag) (h : Heap) (mg : Str → Option Value) (q : GQ) : Prop where
  nm : (q.1 ≠ "Walker.around" ∧ mg q.1 = some (.ref q.2.1)) ∨ MQ K mg q
  fn : ∃ o fd, h.get? q.2.1 = some o ∧ o.data = .func fd ∧ fd.code = .ref q.2.2.1
  code : h.IsCode q.2.2.1 q.2.2.2 #[]
  tab : h.TableAt q.2.2.1 q.2.2.2 #[]
structure GB (K : PySem.W.Frag) (base : Heap) (mg : Str → Option Value) (q : GQ) : Prop where
  nm : (q.1 ≠ "Walker.around" ∧ mg q.1 = some (.ref q.2.1)) ∨ MQ K mg q
  fn : ∀ o fd, K.lookup q.2.1 = some o → o.data = .func fd → fd.code = .ref q.2.2.1
  code : CodeAt base q.2.2.1 q.2.2.2
def kOk (K : PySem.W.Frag) : Bool := K.all fun p => (decide (p.2.cls ≠ .none) || p.1 == cStatics || p.1 == mainGlobals) && decide (p.2.cls ≠ .type "list")
theorem kOk_at {K : PySem.W.Frag} (h : kOk K = true) {b : Addr} {o : Obj} (e : K.lookup b = some o) : (o.cls ≠ .none ∨ b = cStatics ∨ b = mainGlobals) ∧ o.cls ≠ .type "list" := by
  have hm : (b, o) ∈ K := by
    clear h
    induction K with
    | nil => cases e
    | cons p K ih =>
      obtain ⟨c, u⟩ := p
      rw [List.lookup_cons] at e
      by_cases hc : (b == c) = true
      · rw [hc] at e
        cases e
        rw [eq_of_beq hc]; exact List.mem_cons_self
      · rw [Bool.eq_false_iff.mpr hc] at e
        exact List.mem_cons_of_mem _ (ih e)
  have := List.all_eq_true.mp h _ hm
  simp only [Bool.and_eq_true, Bool.or_eq_true, decide_eq_true_eq, beq_iff_eq] at this
  exact ⟨by rcases this.1 with (q | q) | q; exact .inl q; exact .inr (.inl q); exact .inr (.inr q), this.2⟩
def tabsOf (l : List GQ) : List Addr := l.map (·.2.2.2)
def H0 (a : Addr) (vs : List Value) (ns : List Int) (T : List Addr) (tg : Addr → Option Str) : Hp := fun b => if b = a then some (.frz { cls := .type "list", data := .seq vs.toArray } (.lst (ns.map V.int))) else if b ∈ T then some (.tb (tg b) #[]) else none
theorem law_callT (tg : Addr → Option Str) {P : Program} {w : World} {K : PySem.W.Frag} {mg mb : Str → Option Value} {k : Nat} {fa a bm : Addr} {ob : Obj} {fd : FuncData} {x : Str} {sp : Sp} {s₁ : Shared} {vs : List Value} {ns : List Int} {l : List GQ}
    (KX : K.In s₁.heap) (hns : s₁.heap.Ns mainGlobals mg) (hb : s₁.heap.Ns builtinsNs mb) (hbb : ∀ x : Str, x ≠ "__name__" → mb x = bootBuiltins x) (hlim : s₁.heap.NoLimit) (hg : s₁.gens = #[])
    (hM : BMod s₁.heap mainGlobals mg bm ob) (hT : ∀ q ∈ l, GT K s₁.heap mg q) (hK : kOk K = true)
    (ha : s₁.heap.get? a = some { cls := .type "list", data := .seq vs.toArray }) (hi : IntsAre vs ns) (hl : ns.length ≤ sizeLine) (hr : Room k callerA)
    (F : ∀ base : Heap, K.In base → base.Ns mainGlobals mg → BMod base mainGlobals mg bm ob → (∀ q ∈ l, GB K base mg q) → FnOk P w K mg base CX0 k fa fd [x] sp) (hbind : ∀ (s : Shared) (u : Value), BindsTo s fd ⟨[u], []⟩ [(x, u)])
    (hsp : ∀ H : Hp, H a = some (.frz { cls := .type "list", data := .seq vs.toArray } (.lst (ns.map V.int))) → (∀ q ∈ l, H q.2.2.2 = some (.tb (tg q.2.2.2) #[])) → sp [.ref a] H (fun v _ => v = .bl true) E0) :
    codeAny (model P w) callerA (.call (.ref fa) ⟨[.ref a], []⟩) (fun r s' => r = .ok (.ret (.bool true)) ∧ OldK s₁.heap s'.heap ∧ s'.os = s₁.os ∧ AllBare s'.gens) s₁ := by
  have rv := vals_ints hi
  have lenV := hi.length
  have tabAt : ∀ p ∈ tabsOf l, s₁.heap.get? p = some { cls := .none, data := .fields #[] } ∧ ∃ c, s₁.heap.TableAt c p #[] := fun p hp => by
    obtain ⟨q, hq, rfl⟩ := List.mem_map.mp hp
    exact ⟨(hT q hq).tab.2, _, (hT q hq).tab⟩
  have aT : a ∉ tabsOf l := fun hm => by
    have := (tabAt a hm).1
    rw [ha] at this
    cases this
  have HA : H0 a vs ns (tabsOf l) tg a = some (.frz { cls := .type "list", data := .seq vs.toArray } (.lst (ns.map V.int))) := if_pos rfl
  have HT : ∀ p ∈ tabsOf l, H0 a vs ns (tabsOf l) tg p = some (.tb (tg p) #[]) := fun p hp => by
    unfold H0; rw [if_neg (fun e : p = a => aT (e ▸ hp)), if_pos hp]
  have HN : ∀ b, H0 a vs ns (tabsOf l) tg b ≠ none → b = a ∨ b ∈ tabsOf l := fun b h => by
    unfold H0 at h
    by_cases e : b = a
    · exact .inl e
    · rw [if_neg e] at h
      by_cases e2 : b ∈ tabsOf l
      · exact .inr e2
      · rw [if_neg e2] at h; exact absurd rfl h
  generalize hH : H0 a vs ns (tabsOf l) tg = H at HA HT HN
  have hok : HOk P w H s₁.heap := fun b u z => by
    rcases HN b (by rw [z]; simp) with rfl | hm
    · rw [HA] at z; cases z
      exact ⟨ha, by rw [List.length_map]; exact hl, vs, _, rv, ha⟩
    · rw [HT b hm] at z; cases z
      exact (tabAt b hm).1
  have hid : ∀ {b : Addr} {o : Obj}, s₁.heap.get? b = some o → o.cls ≠ .none ∨ (∃ es ep, o.data = .dict es ep) → o.cls ≠ .type "list" ∨ (∃ es ep, o.data = .dict es ep) → H b = none := fun {b o} e h1 h2 => by
    cases q : H b with
    | none => rfl
    | some u =>
      rcases HN b (by rw [q]; simp) with rfl | hm
      · rw [ha] at e; cases e
        rcases h2 with h2 | ⟨es, ep, h2⟩
        · exact absurd rfl h2
        · cases h2
      · rw [(tabAt b hm).1] at e; cases e
        rcases h1 with h1 | ⟨es, ep, h1⟩
        · exact absurd rfl h1
        · cases h1
  have nsK : ∀ {b : Addr} {m : Str → Option Value}, s₁.heap.Ns b m → (hidT s₁.heap H).Ns b m := fun {b m} ⟨o, es, ep, e, d, r⟩ => ⟨o, es, ep, hidT_get e (hid e (.inr ⟨es, ep, d⟩) (.inr ⟨es, ep, d⟩)), d, r⟩
  have hKb : K.In (hidT s₁.heap H) := fun b o e => by
    obtain ⟨h1, h2⟩ := kOk_at hK e
    have e' := KX b o e
    refine hidT_get e' (hid e' ?_ (.inl h2))
    rcases h1 with h1 | rfl | rfl
    · exact .inl h1
    · obtain ⟨mc, ⟨o', es, ep, g1, g2, _⟩, _⟩ := hlim
      rw [e'] at g1; cases g1
      exact .inr ⟨es, ep, g2⟩
    · obtain ⟨o', es, ep, g1, g2, _⟩ := hns
      rw [e'] at g1; cases g1
      exact .inr ⟨es, ep, g2⟩
  have hMod : Mod K mg (hidT s₁.heap H) := ⟨hKb, nsK hns, ⟨mb, nsK hb, hbb⟩, let ⟨mc, h1, h2⟩ := hlim; ⟨mc, nsK h1, h2⟩⟩
  have e0 : Env0 P w K mg (hidT s₁.heap H) callerA [] s₁ H := ⟨rfl, hMod, fun b o e => of_hidT e, Nat.le_of_eq (hidT_size _ _), trivial, fun b hb => absurd (show b ∈ ([] : List Addr) from hb) (by simp), hok, .of_eq hg⟩
  have hMb : BMod (hidT s₁.heap H) mainGlobals mg bm ob := ⟨nsK hns, hM.name, hM.ne, hidT_get hM.obj (hid hM.obj (.inl (by rw [hM.cls]; simp)) (.inl (by rw [hM.cls]; decide))), hM.cls, hM.dict, hM.data⟩
  have hGB : ∀ q ∈ l, GB K (hidT s₁.heap H) mg q := fun q hq => by
    have t := hT q hq
    refine ⟨t.nm, fun o fd' h1 h2 => ?_, ?_⟩
    · obtain ⟨o', fd2, g1, g2, g3⟩ := t.fn
      rw [KX _ _ h1] at g1; cases g1
      rw [h2] at g2; cases g2
      exact g3
    · obtain ⟨⟨o, v, fl, tf, fg, tg, inF, tx, tt, c1, c2, c3⟩, ne⟩ := CodeAt.of t.code t.tab
      exact ⟨⟨o, v, fl, tf, fg, tg, inF, tx, tt, hidT_get c1 (hid c1 (.inl (by rw [c2]; simp)) (.inl (by rw [c2]; decide))), c2, c3⟩, ne⟩
  refine codeAny_mono ((F _ hKb (nsK hns) hMb hGB).run callerA [] s₁ H ⟨[.ref a], []⟩ [.ref a] [.ref a] _ _ hr e0 (hbind s₁ (.ref a)) (.cons rfl .nil) (hsp H HA fun q hq => HT _ (List.mem_map_of_mem hq))) fun r s' h => ?_
  cases r with
  | error e => exact False.elim h
  | ok fl =>
    cases fl with
    | next => exact False.elim h
    | brk => exact False.elim h
    | cont => exact False.elim h
    | ret u =>
      obtain ⟨v, H', os, bare, un, hok', r', q⟩ := h
      obtain rfl : v = .bl true := q
      obtain rfl : u = Value.bool true := r'
      have kept : ∀ b o, s₁.heap.get? b = some o → b ∉ tabsOf l → s'.heap.get? b = some o := fun b o e hn => by
        cases q : H b with
        | none => exact un.keep b o e q (by intro z; exact absurd (show b ∈ ([] : List Addr) from z) (by simp)) (by simp)
        | some u =>
          rcases HN b (by rw [q]; simp) with rfl | hm
          · obtain ⟨e2, _⟩ := hok' _ _ (un.frzs _ _ _ HA)
            rw [ha] at e; cases e
            exact e2
          · exact absurd hm hn
      have grown : ∀ b, b ∈ tabsOf l → ∃ more : Array Value, s'.heap.get? b = some { cls := .none, data := .fields (#[] ++ more) } := fun b hm => by
        obtain ⟨more, e⟩ := un.tbls b _ #[] (HT b hm)
        exact ⟨more, hok' b _ e⟩
      refine ⟨rfl, ⟨fun b o e => ?_, fun b o e => ?_⟩, os, bare⟩
      · by_cases hm : b ∈ tabsOf l
        · obtain ⟨more, e2⟩ := grown b hm
          obtain ⟨t1, c, t2⟩ := tabAt b hm
          rw [t1] at e; cases e
          exact .inr (.inl ⟨t2.isCodeTable, rfl, #[], more, rfl, e2⟩)
        · exact .inl (kept b o e hm)
      · by_cases hm : b ∈ tabsOf l
        · obtain ⟨more, e2⟩ := grown b hm
          exact ⟨_, e2⟩
        · exact ⟨o, kept b o e hm⟩
theorem tabs_of {K : PySem.W.Frag} {p : Program} {loose : List Str} {mean : ExcName → Option Value} {mg mb : Str → Option Value} {h : Heap} (T : Top p loose mean mg mb h) : ∀ ds : List Str, (∀ n ∈ ds, ∃ d ∈ recsOf p, d.name = n) → (∀ n ∈ ds, n ≠ "Walker.around") → ∃ l : List GQ, l.map (·.1) = ds ∧ ∀ q ∈ l, GT K h mg q
  | [], _, _ => ⟨[], rfl, fun _ hq => nomatch hq⟩
  | n :: ds, hd, hne => by
    obtain ⟨d, hm, rfl⟩ := hd n List.mem_cons_self
    obtain ⟨a, o, fd, c, P, h1, h2, h3, h4, h5, h6⟩ := T.tab d hm
    obtain ⟨l, e, hl⟩ := tabs_of T ds (fun m hm => hd m (List.mem_cons_of_mem _ hm)) fun m hm => hne m (List.mem_cons_of_mem _ hm)
    refine ⟨(d.name, a, c, P) :: l, by rw [List.map_cons, e], fun q hq => ?_⟩
    (rcases List.mem_cons.mp hq with rfl | hq)
    · exact ⟨.inl ⟨hne _ List.mem_cons_self, h1⟩, ⟨o, fd, h2, h3, h4⟩, h5, h6⟩
    · exact hl q hq
end U
end
section
set_option Elab.async false
set_option linter.all false
set_option maxRecDepth 100000
set_option maxHeartbeats 1000000
namespace U
open PySem PySem.Spec L2 PyProof.Rows
/-! ### isinstance(e, T), T a built-in type -/
def tyD : D → Option String
  | .non => some "NoneType"
  | .bl _ => some "bool"
  | .int _ => some "int"
  | .str _ => some "str"
  | .lst _ => some "list"
  | .frz _ => some "list"
  | .tup _ => some "tuple"
  | .obj _ _ => none
  | .dct => some "dict"
  | .ex _ => none
def tabT (T TT : String) : Bool := T == TT || (T == "bool" && TT == "int")
theorem kit_tab {K : PySem.W.Frag} {T TT : String} (h : T ∈ ["NoneType", "bool", "int", "str", "list", "tuple", "dict"]) (h2 : TT ∈ ["bool", "int", "str", "list", "tuple"]) : PySem.W.kitOne K (.type T) (.type TT) = some (tabT T TT) := by
  simp only [List.mem_cons, List.not_mem_nil, or_false] at h h2
  rcases h with rfl | rfl | rfl | rfl | rfl | rfl | rfl <;> rcases h2 with rfl | rfl | rfl | rfl | rfl <;> kernel_rfl
def dIsT (TT : String) (x : D) : Option D := (tyD x).map fun T => .bl (tabT T TT)
def tIsT (X : Cx) (TT : String) (ta : TE) : TE := tUn (fun v H Q => ∃ t b, TyOf X.K H v t ∧ PySem.W.kitOne X.K t (.type TT) = some b ∧ Q (.bl b) H) ta
section
variable {G : GG} {X : Cx} {a b c e o : Expr} {es : List Expr} {f g h : UEf} {fs gs : ULf} {Ba Bb Bc B : List Nat} {pos : Pos}
theorem pe_isT {TT : String} {x : Str} {p px : Pos} {ta : TE} (ha : PE X a ta) (hm1 : X.mg "isinstance" = none) (hm2 : X.mg x = none) (hv2 : bootBuiltins x = some (.type TT)) (hg1 : L2.Gl X "isinstance") (hg2 : L2.Gl X x) (hn : x ≠ "__name__") (hd : (x == ("__debug__" : Str)) = false)
    (he : starEach [a, .Name x px] X.env = (false, eval a X.env) :: starEach [.Name x px] X.env) (he2 : starEach [.Name x px] X.env = (false, eval (.Name x px) X.env) :: starEach [] X.env) (hpl : (backTo pos (starEach [.Name x px] X.env)).any (·.1) = false) :
    PE X (.Call (.Name "isinstance" p) [a, .Name x px] [] pos) (tIsT X TT ta) := by
  intro pins s σ H Q I h
  refine wpAny_Call_Name_kw (ld_blt I hg1 hm1 (show bootBuiltins "isinstance" = some (.builtin "isinstance") by decide +kernel) ?_ (by decide) (by decide))
  refine PyProof.Rows.callWith_builtin1 ?_ he hpl
  rw [he]
  show wpAny _ _ (spliced ((false, eval a X.env) :: backTo pos (starEach [.Name x px] X.env))) _ _ s
  refine Calls.spliced_cons (thn (ha pins s σ H _ I h) fun u s1 ⟨v, H1, I1, r1, t, bb, ty, hk, q⟩ => ?_)
  rw [he2]
  show wpAny _ _ (spliced ((false, eval (.Name x px) X.env) :: backTo pos (starEach [] X.env))) _ _ s1
  refine Calls.spliced_cons (ld_blt I1 hg2 hm2 hv2 (Calls.spliced_nil ?_) hn hd)
  exact isinst_ok I1 r1 ty hk fun tk => ⟨.bl bb, H1, I1.tok tk, rfl, q⟩
theorem ty_of {H : Hp} {S : Addr → Prop} {v : V} {x : D} {T : String} (r : Rep G H S v x) (h : tyD x = some T) : TyOf X.K H v (.type T) ∧ T ∈ ["NoneType", "bool", "int", "str", "list", "tuple", "dict"] := by
  cases r with
  | non => cases h; exact ⟨.non, by decide⟩
  | bl y => cases h; exact ⟨.bl y, by decide⟩
  | int i => cases h; exact ⟨.int i, by decide⟩
  | str y => cases h; exact ⟨.str y, by decide⟩
  | lst e _ _ => cases h; exact ⟨.lst e, by decide⟩
  | frz e _ => cases h; exact ⟨.frz e, by decide⟩
  | tup e _ => cases h; exact ⟨.tup e, by decide⟩
  | obj _ _ _ _ => cases h
  | dct e => cases h; exact ⟨.dK e, by decide⟩
  | ex _ _ => cases h
theorem u_isT {TT : String} {x : Str} {p px : Pos} (ha : UE G X a f Ba) (hm1 : X.mg "isinstance" = none) (hm2 : X.mg x = none) (hT : TT ∈ ["bool", "int", "str", "list", "tuple"] := by decide) (hv2 : bootBuiltins x = some (.type TT) := by decide +kernel) (hg1 : L2.Gl X "isinstance" := by rfl) (hg2 : L2.Gl X x := by rfl) (hn : x ≠ "__name__" := by decide) (hd : (x == ("__debug__" : Str)) = false := by decide)
    (he : starEach [a, .Name x px] X.env = (false, eval a X.env) :: starEach [.Name x px] X.env := by rfl) (he2 : starEach [.Name x px] X.env = (false, eval (.Name x px) X.env) :: starEach [] X.env := by rfl) (hpl : (backTo pos (starEach [.Name x px] X.env)).any (·.1) = false := by rfl) :
    UE G X (.Call (.Name "isinstance" p) [a, .Name x px] [] pos) (uUn (dIsT TT) f) Ba := u_op1 (fun _ h => pe_isT h hm1 hm2 hv2 hg1 hg2 hn hd he he2 hpl) ha fun x d h S v H Q r k => by
  unfold dIsT at h
  obtain ⟨T, e1, rfl⟩ := Option.map_eq_some_iff.mp h
  obtain ⟨ty, hm⟩ := ty_of (X := X) r e1
  exact ⟨_, _, ty, kit_tab hm hT, k _ H (Keep.refl H) (.bl _)⟩
/-! ### list.count, list.index: flat things -/
/-! ### x.extend(e) -/
/-! ### x[g] += e, whole numbers -/
def tGetL : V → V → Hp → VK → Prop := fun o i H Q => ∃ p xs k v, o = .ref p ∧ i = .int k ∧ H p = some (.lst xs) ∧ 0 ≤ k ∧ xs[k.toNat]? = some v ∧ Q v H
theorem get_lst : PGet X tGetL := by
  intro pins s σ H o i ov iv Q I ro ri h
  obtain ⟨p, xs, k, v, rfl, rfl, hp, h0, hx, q⟩ := h
  cases ro
  obtain ⟨t, rfl⟩ := ri
  obtain ⟨its, rv, pl, hz⟩ := I.list (SqL.of (K := X.K) hp)
  obtain ⟨u, hu, ru⟩ := rv.get hx
  have hlt : k.toNat < xs.length := (List.getElem?_eq_some_iff.mp hx).1
  have hn := line63
  exact wpAny_getItem_list pl.isList h0 (by omega) (by simpa using hu) ⟨v, H, I, ru, q⟩
/-! ### f() -/
section
variable {k : Nat} {F : List D → Option SV} {fa : Addr} {fd : FuncData} {ps : List Str} {x : Str} {p : Pos}
end
end
/-! ### a def that makes a generator -/
theorem fn_ug {P : Program} {w : World} {G : GG} {mg : Str → Option Value} {base : Heap} {x qual : Str} {st : Stmt} {f bm : Addr} {ob : Obj} {fd : FuncData} {N ps : List Str} {k n : Nat} {F : List D → Option SV} {comb : US} {gs : List GQ} (hB : BMod base mainGlobals mg bm ob) (hq : ∃ q ∈ gs, q.2.1 = f ∧ GB G.K base mg q) (ht : G.tabs = tabsOf gs)
    (FF : Fun G.K x qual st f fd) (S : FnScope N ps (defScope st)) (hn : ps.length = n)
    (body : ∀ (cdv : Value) (A : Around) (outer : List Env) (s : Shared) (H : Hp) (E : XK), Room k (A.deeper (PyProof.Rows.envOfC qual (defScope st) s.heap.objs.size f cdv)) → GenCx G (cxOf CX0 P w G.K mg base N qual (defScope st) f cdv A outer s H E).nox →
      USs G (cxOf CX0 P w G.K mg base N qual (defScope st) f cdv A outer s H E).nox (defBody st) comb)
    (pure : ∀ ds r, F ds = some r → ∃ fuel, runD comb fuel N.length ds = some r) : FnOk P w G.K mg base CX0 (k + 1) f fd ps (uSp G n F) := by
  obtain ⟨oc, od, kV, doc, pm, an, cdv, ct, osl, rfl, lk, hcd⟩ := FF.ex
  obtain ⟨q, hqm, rfl, gb⟩ := hq
  refine fn_of lk hcd S (fun vs H Q E ⟨S0, ds, r, hl, _⟩ => by rw [hl, hn]) fun A outer s H vs Q E hr ⟨S0, ds, r, hl, hs, htb, rv, hF, qq⟩ => ?_
  have hc : GenCx G (cxOf CX0 P w G.K mg base N qual (defScope st) q.2.1 cdv A outer s H E).nox := ⟨_, _, bm, ob, gb.fn _ _ lk rfl, gb.code, hB, by rw [ht]; exact List.mem_map_of_mem hqm⟩
  refine ⟨_, (body cdv A outer s H E hr hc).ps.nox, ?_⟩
  obtain ⟨fuel, h⟩ := pure ds r hF
  unfold runD at h
  split at h
  · rename_i r' e
    cases h
    exact ⟨H, S0, [], _, _, fuel, _, start_ok hs htb rv, e, RtPost.mono (fun _ _ q => q) qq⟩
  · rename_i δ' e
    cases h
    exact ⟨H, S0, [], _, _, fuel, _, start_ok hs htb rv, e, fun σ' H' own' ok' => qq .non H' ok'.kp .non⟩
  · cases h
end U
end
section
set_option Elab.async false
set_option linter.all false
set_option maxRecDepth 100000
set_option maxHeartbeats 1000000
/-! The text's defs by name. -/
namespace U
open PySem PySem.Spec L2 PyProof.Rows
/-- a def of the text keeps its pure word -/
structure Fn1 (P : Program) (w : World) (K : PySem.W.Frag) (mg : Str → Option Value) (base : Heap) (G : GG) (x : Str) (k n : Nat) (F : List D → Option SV) : Prop where
  ex : ∃ f fd ps, FnOk P w K mg base CX0 k f fd ps (uSp G n F) ∧ mg x = some (.ref f) ∧ PySem.W.keepIn K (.ref f) = true ∧ Binds K fd ps []
/-- a def of the text, as the top has left it -/
structure Def1 (K : PySem.W.Frag) (mg : Str → Option Value) (x : Str) (st : Stmt) (ps : List Str) : Prop where
  ex : ∃ f fd, Fun K x x st f fd ∧ mg x = some (.ref f) ∧ Binds K fd ps []
theorem def_mk {K : PySem.W.Frag} {h : Heap} {mg : Str → Option Value} {x : Str} {st : Stmt} {ps : List Str} {f : Addr} {oc : Value} {od an : Option Addr} {osl : Array (Option Value)} {kV doc pm cdv ct : Value} (X : K.In h) (Gn : h.Ns mainGlobals mg)
    (hb : ∀ (kV doc pm : Value) (an : Option Addr) (cdv ct : Value) (us : List Value), us.length = ps.length → bindArgs (PySem.W.fnOf x x (defArgs st) (defBody st) (defScope st) .none kV doc pm an cdv ct) ⟨us, []⟩ = pure (ps.zip us))
    (a : PySem.W.nsIn K mainGlobals x = some (some (.ref f))) (l : K.lookup f = some ⟨oc, od, .func (PySem.W.fnOf x x (defArgs st) (defBody st) (defScope st) .none kV doc pm an cdv ct), osl⟩)
    (c : PySem.W.codeIn K cdv x = true) (k : PySem.W.keepIn K (.ref f) = true) : Def1 K mg x st ps :=
  have F := fun_mk (st := st) l c k
  ⟨f, _, F, PySem.W.mg_of X Gn a, F.binds hb⟩
structure IntC (mg : Str → Option Value) (x : Str) (i : Int) : Prop where
  ex : ∃ t, mg x = some (.int i t)
theorem int_mk {K : PySem.W.Frag} {h : Heap} {mg : Str → Option Value} {x : Str} {i : Int} {t : Tok} (X : K.In h) (Gn : h.Ns mainGlobals mg) (a : PySem.W.nsIn K mainGlobals x = some (some (.int i t))) : IntC mg x i := ⟨t, PySem.W.mg_of X Gn a⟩
theorem non_mk {K : PySem.W.Frag} {h : Heap} {mg : Str → Option Value} {x : Str} (X : K.In h) (Gn : h.Ns mainGlobals mg) (a : PySem.W.nsIn K mainGlobals x = some none) : mg x = none := PySem.W.mg_none_of X Gn a
section
variable {G : GG} {X : Cx} {a b c e o : Expr} {es : List Expr} {f g h : UEf} {fs gs : ULf} {Ba Bb Bc B : List Nat} {pos p : Pos} {x : Str} {k j n : Nat} {F : List D → Option SV}
theorem u_gI {i : Int} (h : IntC X.mg x i) (hg : L2.Gl X x := by rfl) (hd : (x == ("__debug__" : Str)) = false := by decide) : UE G X (.Name x pos) (uC (.int i)) [] := let ⟨_, e⟩ := h.ex; u_globI e hg hd
/-- so many are handed in -/
def HasLen (fs : ULf) (n : Nat) : Prop := ∀ δ ds, fs δ = some ds → ds.length = n
theorem hl_nil : HasLen uNil 0 := fun δ ds h => by cases h; rfl
theorem hl_cons (h : HasLen fs n) : HasLen (uCons f fs) (n + 1) := fun δ ds e => by
  unfold uCons at e
  split at e
  · rename_i y ys h1 h2
    cases e
    rw [List.length_cons, h δ ys h2]
  · cases e
theorem u_fc (hF : Fn1 X.prog X.w X.K X.mg X.base G x j n F) (hr : Room k X.A) (hj : j ≤ k) (ha : UA G X (e :: es) fs B) (hl : HasLen fs n) (hn : (e :: es).length = n := by rfl)
    (hg : L2.Gl X x := by rfl) (hdb : (x == ("__debug__" : Str)) = false := by decide) (he : starEach (e :: es) X.env = (false, eval e X.env) :: starEach es X.env := by rfl) (hpl : (backTo pos (starEach es X.env)).any (·.1) = false := by rfl) : UE G X (.Call (.Name x p) (e :: es) [] pos) (uCall F fs) B :=
  let ⟨_, _, _, h1, h2, h3, h4⟩ := hF.ex
  u_call h1 (hr.mono hj) h2 h3 h4 ha hn hg hdb he hpl hl
theorem ul_fc (hF : Fn1 X.prog X.w X.K X.mg X.base G x j n F) (hr : Room k X.A) (hj : j ≤ k) (ha : UA G X (e :: es) fs B) (hl : HasLen fs n) (hn : (e :: es).length = n := by rfl)
    (hg : L2.Gl X x := by rfl) (hdb : (x == ("__debug__" : Str)) = false := by decide) (he : starEach (e :: es) X.env = (false, eval e X.env) :: starEach es X.env := by rfl) (hpl : (backTo pos (starEach es X.env)).any (·.1) = false := by rfl) : UL G X (.Call (.Name x p) (e :: es) [] pos) (uCallL F fs) B :=
  let ⟨_, _, _, h1, h2, h3, h4⟩ := hF.ex
  ul_call h1 (hr.mono hj) h2 h3 h4 ha hn hg hdb he hpl hl
end
section
variable {G : GG} {X : Cx} {a b c : Expr} {f g h : UEf} {Ba Bb Bc : List Nat} {pos : Pos}
theorem ut_chain {op op' : CmpOp} {p q : Int → Int → Bool} (ho : OpR X (compareOp op) (rI0 fun i j => .bl (p i j))) (ho' : OpR X (compareOp op') (rI0 fun i j => .bl (q i j))) (ha : UE G X a f Ba) (hb : UE G X b g Bb) (hc : UE G X c h Bc)
    (hm : lastMarks [op, op'] [b, c] = false := by with_unfolding_all rfl) : UT G X (.Compare a [op, op'] [b, c] pos) (uB (uCh p q f g h)) := ⟨PT.weak (pt_chain ho ho' ha.pe hb.pe hc.pe hm) fun σ H Q ⟨He, S0, P, own, δ, bb, ok, hf, k⟩ => by
  unfold uB at hf
  split at hf
  · rename_i b' e
    cases hf
    unfold uCh at e
    split at e
    · rename_i x y z h1 h2 h3
      unfold dCh at e
      split at e
      · rename_i i j l
        cases e
        refine tU.two ok h1 h2 fun v u H2 k2 r1 r2 => ?_
        cases r1; cases r2
        refine ⟨i, j, rfl, rfl, p i j, rfl, ?_⟩
        cases e : p i j with
        | false => rw [if_neg Bool.false_ne_true]; exact ⟨_, rfl, by have := k H2 k2; rw [e] at this; exact this⟩
        | true =>
          rw [if_pos rfl]
          refine ⟨He, S0, P, own, δ, _, ok.keep k2, h3, fun w H3 k3 r3 => ?_⟩
          cases r3
          exact ⟨j, l, rfl, rfl, _, rfl, by have := k H3 (k2.trans k3); rw [e] at this; exact this⟩
      · cases e
    · cases e
  · cases hf⟩
end
/-! ### great numbers -/
def cPow2 (i j : Int) : Bool := decide (0 ≤ j) && decide ((Builtin.Int.intBits i : Int) * j ≤ 2 ^ 27)
def dPow2 : D → D → Option D := dI cPow2 fun i j => .int (i ^ j.toNat)
section
variable {G : GG} {X : Cx} {a b : Expr} {f g : UEf} {Ba Bb : List Nat} {pos : Pos}
theorem u_pow2 (ha : UE G X a f Ba) (hb : UE G X b g Bb) : UE G X (.BinOp a .Pow b pos) (uOp dPow2 f g) (Ba ++ Bb) := u_op2 (r := rI (fun i j => cPow2 i j = true) fun i j => .int (i ^ j.toNat)) (fun _ _ => pe_op (opI fun i j _ _ _ _ _ hc q => by
  unfold cPow2 at hc
  (simp only [Bool.and_eq_true, decide_eq_true_eq] at hc)
  exact pow_int hc.1 hc.2 q)) ha hb (ho_I fun i j hc => hc)
end
/-- a block of a comprehension, checked -/
def blkOk (N : List Str) (sc scope : Scope) (own : List (Str × Nat)) : Bool :=
  decide (scope.kind = .function) && scope.names.all (fun y => decide (scope.names.lookup y.1 = some y.2)) && own.all (fun p => decide (N[p.2]? = some p.1)) &&
    scope.names.all (fun y => !decide (y.2 = .free) || (decide (sc.names.lookup y.1 = some .cell) || decide (sc.names.lookup y.1 = some .free))) &&
    scope.names.all (fun y => !(decide (y.2 = .local) || decide (y.2 = .cell)) || (decide (y.1 ∈ own.map (·.1)) || !decide (y.1 ∈ N)))
theorem blk_of {N : List Str} {sc scope : Scope} {own : List (Str × Nat)} (h : blkOk N sc scope own = true) : BlkOk N sc scope own := by
  unfold blkOk at h
  simp only [Bool.and_eq_true, List.all_eq_true, Bool.or_eq_true, Bool.not_eq_true', decide_eq_true_eq, decide_eq_false_iff_not, Bool.or_eq_false_iff] at h
  obtain ⟨⟨⟨⟨h1, h2⟩, h3⟩, h4⟩, h5⟩ := h
  refine ⟨h1, h2, h3, fun y hy e => ?_, fun y hy e => ?_⟩
  · exact (h4 y hy).resolve_left fun n => n e
  · rcases h5 y hy with n | n
    · exact absurd e fun e => e.elim n.1 n.2
    · exact n
theorem nf {scope : Scope} {X : Cx} (h : ∀ y ∈ scope.names, y.2 ≠ .free := by decide +kernel) : ∀ y ∈ scope.names, y.2 = .free → X.env.kindOf y.1 = some .cell ∨ X.env.kindOf y.1 = some .free := fun y hy e => absurd e (h y hy)
theorem fn1 {P : Program} {w : World} {G : GG} {mg : Str → Option Value} {base : Heap} {x : Str} {st : Stmt} {N ps : List Str} {k n fuel : Nat} {comb : US} (dd : Def1 G.K mg x st ps) (S : FnScope N ps (defScope st)) (hn : ps.length = n)
    (body : ∀ (f : Addr) (cdv : Value) (A : Around) (outer : List Env) (s : Shared) (H : Hp) (E : XK), Room k (A.deeper (PyProof.Rows.envOfC x (defScope st) s.heap.objs.size f cdv)) →
      USs G (cxOf CX0 P w G.K mg base N x (defScope st) f cdv A outer s H E).nox (defBody st) comb) : Fn1 P w G.K mg base G x (k + 1) n (runD comb fuel N.length) := by
  obtain ⟨f, fd, FF, hm, hb⟩ := dd.ex
  exact ⟨f, fd, ps, fn_u FF S hn (body f) fun ds r h => ⟨fuel, h⟩, hm, FF.kp, hb⟩
/-- the defs whose tables of code are known -/
structure GenD (G : GG) (base : Heap) (mg : Str → Option Value) (x : Str) : Prop where
  ex : ∃ bm ob gs, BMod base mainGlobals mg bm ob ∧ G.tabs = tabsOf gs ∧ ∃ q ∈ gs, q.1 = x ∧ GB G.K base mg q
theorem fn1g {P : Program} {w : World} {G : GG} {mg : Str → Option Value} {base : Heap} {x : Str} {st : Stmt} {N ps : List Str} {k n fuel : Nat} {comb : US} (gd : GenD G base mg x) (dd : Def1 G.K mg x st ps) (S : FnScope N ps (defScope st)) (hn : ps.length = n)
    (body : ∀ (f : Addr) (cdv : Value) (A : Around) (outer : List Env) (s : Shared) (H : Hp) (E : XK), Room k (A.deeper (PyProof.Rows.envOfC x (defScope st) s.heap.objs.size f cdv)) → GenCx G (cxOf CX0 P w G.K mg base N x (defScope st) f cdv A outer s H E).nox →
      USs G (cxOf CX0 P w G.K mg base N x (defScope st) f cdv A outer s H E).nox (defBody st) comb) (hx : x ≠ "Walker.around" := by decide) : Fn1 P w G.K mg base G x (k + 1) n (runD comb fuel N.length) := by
  obtain ⟨f, fd, FF, hm, hb⟩ := dd.ex
  obtain ⟨bm, ob, gs, hB, ht, q, hq, rfl, gb⟩ := gd.ex
  rcases gb.nm with ⟨_, nm⟩ | ⟨z, _⟩
  rotate_left
  · exact absurd z hx
  have e := nm.symm.trans hm
  have e2 : q.2.1 = f := by injection e with e; injection e
  exact ⟨f, fd, ps, fn_ug hB ⟨q, hq, e2, gb⟩ ht FF S hn (body f) fun ds r h => ⟨fuel, h⟩, hm, FF.kp, hb⟩
theorem names_of {p : Program} {ds : List Str} (h : ds.all (fun n => (recsOf p).any fun d => decide (d.name = n)) = true) : ∀ n ∈ ds, ∃ d ∈ recsOf p, d.name = n := fun n hn => by
  obtain ⟨d, h1, h2⟩ := List.any_eq_true.mp (List.all_eq_true.mp h n hn)
  exact ⟨d, h1, of_decide_eq_true h2⟩
end U
end
section
set_option Elab.async false
set_option linter.all false
set_option maxRecDepth 100000
set_option maxHeartbeats 1000000
/-! Generators within comprehensions; more words. -/
namespace U
open PySem PySem.Spec L2 PyProof.Rows
end U
end
section
set_option Elab.async false
set_option linter.all false
set_option maxRecDepth 100000
set_option maxHeartbeats 1000000
/-! str of lists of numbers; lists of lists asked for a list; list(range(..)). -/
namespace U
open PySem PySem.Spec L2 PyProof.Rows
section
variable {G : GG} {X : Cx} {e : Expr} {fs : ULf} {B : List Nat} {pos p : Pos} {k : Nat}
variable {a b : Expr} {f g : UEf} {Ba Bb : List Nat}
end
/-! ### a list in a list of lists -/
section
variable {G : GG} {X : Cx} {a b : Expr} {f g : UEf} {Ba Bb : List Nat} {pos p : Pos} {k : Nat}
/-! ### index -/
variable {o e : Expr}
end
end U
end
section
set_option Elab.async false
set_option linter.all false
set_option maxRecDepth 100000
set_option maxHeartbeats 1000000
/-! list(range(..)); the item of one_more; led_to in the quiet layer. -/
namespace U
open PySem PySem.Spec L2 PyProof.Rows
section
variable {X : Cx}
end
section
variable {G : GG} {X : Cx} {e : Expr} {es : List Expr} {fs : ULf} {B : List Nat} {pos p p1 p2 : Pos}
end
end U
end
section
set_option Elab.async false
set_option linter.all false
set_option maxRecDepth 100000
set_option maxHeartbeats 1000000
/-! The truth of a list; str of lists with None among the numbers. -/
namespace U
open PySem PySem.Spec L2 PyProof.Rows
def uTl (f : UEf) : UTf := fun δ => match f δ with | some (.lst xs) => some (!xs.isEmpty) | _ => none
section
variable {G : GG} {X : Cx} {a : Expr} {f : UEf} {Ba : List Nat}
theorem ut_lst (ha : UE G X a f Ba) (he : ∀ whole, isTrue a X.env whole = (do let v ← whole; standAt a.pos; holding [v] (truthy v)) := by intro _; rfl) : UT G X a (uTl f) := ⟨PT.weak (pt_truth ha.pe he) fun σ H Q ⟨He, S0, P, own, δ, bb, ok, hf, k⟩ => by
  unfold uTl at hf
  split at hf
  · rename_i xs e
    cases hf
    refine ⟨He, S0, P, own, δ, _, ok, e, fun v H1 k1 r1 => ?_⟩
    cases r1 with
    | lst hh hn r =>
      refine ⟨_, .inl ⟨_, SqL.of hh, rfl⟩, ?_⟩
      rename_i vs
      have : (!vs.isEmpty) = !xs.isEmpty := by
        cases r <;> rfl
      rw [this]
      exact k H1 k1
  · cases hf⟩
end
/-! ### numbers and None -/
def oD : Option Int → D
  | none => .non
  | some i => .int i
section
variable {G : GG} {X : Cx} {e : Expr} {fs : ULf} {B : List Nat} {pos p : Pos} {k : Nat}
end
end U
end
section
set_option Elab.async false
set_option linter.all false
set_option maxRecDepth 100000
set_option maxHeartbeats 1000000
/-! A def that changes one list handed in: the name j holds the list at a all along. -/
namespace U
open PySem PySem.Spec L2
def SRF (G : GG) (j : Nat) (a : Addr) (He : Hp) (S0 : Addr → Prop) (P : List (V × D)) (D' : Ends) : SR → Prop
  | .nx δ => ∀ σ H own, OK G He H S0 P own σ δ → own j a → D'.nx σ H
  | .bk δ => ∀ σ H own, OK G He H S0 P own σ δ → own j a → D'.bk σ H
  | .ct δ => ∀ σ H own, OK G He H S0 P own σ δ → own j a → D'.ct σ H
  | .rt _ => False
def tUF (G : GG) (j : Nat) (f : US) : TS := fun D' σ H => ∃ He S0 P own δ n r a, OK G He H S0 P own σ δ ∧ own j a ∧ f n δ = some r ∧ SRF G j a He S0 P D' r
structure UFt (G : GG) (X : Cx) (j : Nat) (s : Stmt) (f : US) : Prop where
  ps : PS X s (tUF G j f)
structure UFs (G : GG) (X : Cx) (j : Nat) (s : List Stmt) (f : US) : Prop where
  ps : PSs X s (tUF G j f)
section
variable {G : GG} {X : Cx} {a b c e o tg : Expr} {es : List Expr} {f g h : UEf} {fs gs : ULf} {Ba Bb Bc B : List Nat} {pos : Pos} {st : Stmt} {sts : List Stmt} {u v : US} {tc : UTf} {i j : Nat}
theorem ownB_at {own : Nat → Addr → Prop} {B : List Nat} {j : Nat} {q : Addr} (h : j ∉ B) (e : own j q) : ownB own B j q := ⟨h, e⟩
theorem uf_nil : UFs G X j [] uNext := ⟨PSs.weak pss_nil fun D σ H ⟨He, S0, P, own, δ, n, r, q, ok, ho, hf, k⟩ => by cases hf; exact k σ H own ok ho⟩
theorem uf_cons (h1 : UFt G X j st u) (h2 : UFs G X j sts v) : UFs G X j (st :: sts) (uSeq u v) := ⟨PSs.weak (pss_cons h1.ps h2.ps) fun D σ H ⟨He, S0, P, own, δ, n, r, q, ok, ho, hf, k⟩ => by
  unfold uSeq at hf
  split at hf
  · rename_i δ' e
    exact ⟨He, S0, P, own, δ, n, _, q, ok, ho, e, fun σ' H' own' ok' ho' => ⟨He, S0, P, own', δ', n, r, q, ok', ho', hf, k⟩⟩
  · rename_i hn
    refine ⟨He, S0, P, own, δ, n, r, q, ok, ho, hf, ?_⟩
    cases r with
    | nx δ' => exact absurd hf (hn δ')
    | rt r => exact k
    | bk δ' => exact k
    | ct δ' => exact k⟩
theorem uf_one (h1 : UFt G X j st u) : UFs G X j [st] u := ⟨pss_one h1.ps⟩
theorem uf_if (hc : UT G X c tc) (ha : UFs G X j sts u) {sts' : List Stmt} (hb : UFs G X j sts' v) : UFt G X j (.If c sts sts' pos) (uIfS tc u v) := ⟨PS.weak (ps_if hc.pt ha.ps hb.ps) fun D σ H ⟨He, S0, P, own, δ, n, r, q, ok, ho, hf, k⟩ => by
  unfold uIfS at hf
  split at hf
  · rename_i e
    refine ⟨He, S0, P, own, δ, _, ok, e, fun H1 k1 => ?_⟩
    refine iteT ?_
    exact ⟨He, S0, P, own, δ, n, r, q, ok.keep k1, ho, hf, k⟩
  · rename_i e
    refine ⟨He, S0, P, own, δ, _, ok, e, fun H1 k1 => ?_⟩
    refine iteF ?_
    exact ⟨He, S0, P, own, δ, n, r, q, ok.keep k1, ho, hf, k⟩
  · cases hf⟩
theorem put_okF {He H : Hp} {S0 : Addr → Prop} {P : List (V × D)} {own : Nat → Addr → Prop} {σ : L2.St} {δ : DS} {v : V} {d : D} {q : Addr} (ok : OK G He H S0 P own σ δ) (i : Nat) (r : Rep G H (AvB S0 own B) v d) (hi : j ∉ [i]) (hB : j ∉ B) (ho : own j q) : ∃ own', own' j q ∧ OK G He H S0 P own' (σ.set i (some v)) (put B δ i d) := by
  unfold put
  split
  · rename_i hf
    exact ⟨_, ownB_at hi ho, ok.set i (r.flat hf _ _)⟩
  · exact ⟨_, ownB_at hi (ownB_at hB ho), (ok.dem B).set i (r.mono fun a z _ => av_ownB (av_ownB' z))⟩
theorem uf_set {i : Nat} {x : Str} {pos' : Pos} (he : UE G X e f B) (hN : X.N.Nodup) (hij : j ∉ [i] := by decide) (hB : j ∉ B := by decide) (hi : X.N[i]? = some x := by rfl) (hx : Loc X.env.scope x := by first | exact Or.inl rfl | exact Or.inr rfl) (hs : swapsWith e (some (.Name x pos')) pos.line X.env = pure false := by rfl)
    (hf : X.fn x = true ∨ X.env.scope.names.lookup x = some .local := by first | exact .inl rfl | exact .inr rfl) : UFt G X j (.Assign [.Name x pos'] e pos) (uSet i f B) := ⟨PS.weak (ps_set hN hi hx he.pe hs hf) fun D σ H ⟨He, S0, P, own, δ, n, r, q, ok, ho, hf, k⟩ => by
  unfold uSet at hf
  obtain ⟨d, e, rfl⟩ := Option.map_eq_some_iff.mp hf
  exact ⟨He, S0, P, own, δ, d, ok, e, fun v H1 k1 r1 => by
    obtain ⟨own', ho', ok'⟩ := put_okF (ok.keep k1) i r1 hij hB ho
    exact k _ H1 own' ok' ho'⟩⟩
theorem uf_setL {i : Nat} {x : Str} {pos' : Pos} (he : UL G X e fs B) (hN : X.N.Nodup) (hij : j ∉ [i] := by decide) (hB : j ∉ B := by decide) (hi : X.N[i]? = some x := by rfl) (hx : Loc X.env.scope x := by first | exact Or.inl rfl | exact Or.inr rfl) (hs : swapsWith e (some (.Name x pos')) pos.line X.env = pure false := by rfl)
    (hf : X.fn x = true ∨ X.env.scope.names.lookup x = some .local := by first | exact .inl rfl | exact .inr rfl) : UFt G X j (.Assign [.Name x pos'] e pos) (uSetL i fs B) := ⟨PS.weak (ps_set hN hi hx he.pe hs hf) fun D σ H ⟨He, S0, P, own, δ, n, r, q, ok, ho, hf, k⟩ => by
  unfold uSetL at hf
  obtain ⟨d, e, rfl⟩ := Option.map_eq_some_iff.mp hf
  refine ⟨He, S0, P, own, δ, d, ok, e, fun p xs H1 k1 n1 e1 r1 => ?_⟩
  have hj : j ≠ i := fun z => hij (List.mem_singleton.mpr z)
  by_cases hfl : flats d = true
  · have ok' := ok.setL (ds := d) k1 i n1 e1 (r1.flt hfl _ _)
    refine k _ H1 _ (by unfold putL; rw [if_pos hfl]; exact ok') ((ownN_ne (fun z => hj z.symm) _).mpr ho)
  · have ok' := (ok.dem B).setL (ds := d) k1 i n1 e1 (r1.mono fun a z _ => z.imp (fun z => av_ownB (av_ownB' z)) id)
    refine k _ H1 _ (by unfold putL; rw [if_neg hfl]; exact ok') ((ownN_ne (fun z => hj z.symm) _).mpr (ownB_at hB ho))⟩
theorem dem_ifF {He H : Hp} {S0 : Addr → Prop} {P : List (V × D)} {own : Nat → Addr → Prop} {σ : L2.St} {δ : DS} {v : V} {d : D} {q : Addr} (ok : OK G He H S0 P own σ δ) (r : Rep G H (AvB S0 own B) v d) (hB : j ∉ B) (ho : own j q) :
    ∃ own', own' j q ∧ OK G He H S0 P own' σ (if d.flat then δ else dem B δ) ∧ Rep G H (Av S0 own') v d := by
  split
  · rename_i hf; exact ⟨own, ho, ok, r.flat hf _ _⟩
  · exact ⟨_, ownB_at hB ho, ok.dem B, r.mono fun a z _ => av_ownB z⟩
theorem uf_app {i : Nat} {x : Str} {px apos cpos : Pos} (he : UE G X e f B) (hB : j ∉ B := by decide) (hN : X.N[i]? = some x := by rfl) (hv : Vis X.env.scope x := by first | exact Or.inl rfl | exact Or.inr (Or.inl rfl) | exact Or.inr (Or.inr rfl)) (hd : (x == ("__debug__" : Str)) = false := by decide)
    (hcd : (x == ("__classdict__" : Str)) = false := by decide) (hbase : attributeBase (.Name x px) "append" X.env (eval (.Name x px) X.env) = eval (.Name x px) X.env := by rfl)
    (hfew : ((backTo cpos (starEach [e] X.env)).all (fun x => !x.1) && (backToKw cpos (keywordEach [] X.env)).all (fun x => x.1.isSome)
      && decide (([e] : List Expr).length + ([] : List Keyword).length + (if ([] : List Keyword).isEmpty then 0 else 1) < 30)) = true := by rfl)
    (hline : (apos.endLine == cpos.line) = true := by rfl) (hst : starEach [e] X.env = (false, eval e X.env) :: starEach [] X.env := by rfl) (hpl : (backTo cpos (starEach [] X.env)).any (·.1) = false := by rfl)
    (hs : swapsWith (.Call (.Attribute (.Name x px) "append" apos) [e] [] cpos) none pos.line X.env = pure false := by rfl) :
    UFt G X j (.Expr (.Call (.Attribute (.Name x px) "append" apos) [e] [] cpos) pos) (uApp i f B) :=
  ⟨PS.weak (ps_expr (pe_bm PySem.F.plainAttrs_list PySem.F.slot_list_append PySem.F.type_list_append mt_append (pe_var hN hv hd hcd) (pa_cons he.pe pa_nil hst) hbase hfew hline hst hpl) hs) fun D' σ H ⟨He, S0, P, own, δ, n, r, qa, ok, ho, hf, k⟩ => by
    unfold uApp at hf
    split at hf
    · cases hf
    · rename_i d e1
      split at hf
      · rename_i xs e2
        split at hf
        · rename_i hz
          cases hf
          have e2' := own1_of e2
          have hv : ∃ p zs, σ[i]? = some (some (.ref p)) ∧ H p = some (.lst zs) := by
            by_cases hfl : d.flat = true
            · rw [if_pos hfl] at e2'
              obtain ⟨p, zs, h1, h2, h3, h4⟩ := ok.val i _ e2'
              exact ⟨p, zs, h1, h3⟩
            · rw [if_neg hfl] at e2'
              obtain ⟨p, zs, h1, h2, h3, h4⟩ := (ok.dem B).val i _ e2'
              exact ⟨p, zs, h1, h3⟩
          obtain ⟨p, zs, h1, h3⟩ := hv
          refine ⟨_, h1, .inl ⟨rfl, zs, SqL.of h3⟩, He, S0, P, own, δ, d, ok, e1, fun v H1 k1 r1 => ?_⟩
          obtain ⟨own', ho', ok', r'⟩ := dem_ifF (ok.keep k1) r1 hB ho
          obtain ⟨q, ys, g1, g2, g3, g4⟩ := ok'.val i _ e2'
          rw [h1] at g1; cases g1
          refine ⟨p, ys, v, rfl, rfl, g3, ?_, k σ _ own' (ok'.write e2' ((g2 _).mpr rfl) g3 (g4.snoc r')) ho'⟩
          rw [g4.length]
          exact Nat.lt_of_lt_of_le hz (by rw [sizeLine_eq]; decide)
        · cases hf
      · cases hf⟩
theorem uf_putIx {i : Nat} {x : Str} {px spos : Pos} (he : UE G X e f B) (hg : UE G X b g Bb) (hB : ∀ δ d, f δ = some d → d.flat = true) (hN : X.N[i]? = some x := by rfl) (hv : Vis X.env.scope x := by first | exact Or.inl rfl | exact Or.inr (Or.inl rfl) | exact Or.inr (Or.inr rfl)) (hd : (x == ("__debug__" : Str)) = false := by decide)
    (hcd : (x == ("__classdict__" : Str)) = false := by decide)
    (ha : ∀ v, assign (.Subscript (.Name x px) b spos) X.env v = (do
      let ov ← holding [v] (eval (.Name x px) X.env)
      let iv ← holding [v, ov] (eval b X.env)
      standAt spos
      holding [v, ov, iv] (setItem ov iv v)
      release [v, ov, iv] []) := by intro _; rfl) (hs : swapsWithSole [.Subscript (.Name x px) b spos] e pos.line X.env = pure false := by rfl) (hw : swappedStores [.Subscript (.Name x px) b spos] e X.env = pure none := by rfl)
    (h1 : (assignEach [.Subscript (.Name x px) b spos] X.env).map (·.2) = [assign (.Subscript (.Name x px) b spos) X.env] := by rfl) : UFt G X j (.Assign [.Subscript (.Name x px) b spos] e pos) (uPutIx i g f B) :=
  ⟨PS.weak (ps_asg he.pe (pg_sub (pe_var hN hv hd hcd) hg.pe set_list ha) hs hw h1) fun D' σ H ⟨He, S0, P, own, δ, n, r, qa, ok, ho, hf, k⟩ => by
    unfold uPutIx at hf
    split at hf
    · rename_i d kk e1 e3
      have hfl := hB _ _ e1
      rw [if_pos hfl] at hf
      split at hf
      · rename_i xs e2
        split at hf
        · rename_i j ej
          cases hf
          have e2' := own1_of e2
          refine ⟨He, S0, P, own, δ, d, ok, e1, fun v H1 k1 r1 => ?_⟩
          have ok' := ok.keep k1
          have r' : Rep G H1 (Av S0 own) v d := r1.flat hfl _ _
          obtain ⟨q, ys, g1, g2, g3, g4⟩ := ok'.val i _ e2'
          refine ⟨_, g1, He, S0, P, own, δ, _, ok.keep k1, e3, fun u H2 k2 r2 => ?_⟩
          cases r2
          have ok2 := ok'.keep k2
          refine ⟨q, ys, kk, j, rfl, rfl, k2.lst g3, by rw [ixD_eq, g4.length]; exact ej, k σ _ own (ok2.write e2' ((g2 _).mpr rfl) (k2.lst g3) ((g4.keep k2).set j (r'.keep k2))) ho⟩
        · cases hf
      · cases hf
    · cases hf⟩
theorem uf_for {l : Nat} {x : Str} {xpos : Pos} {body : List Stmt} {src : ULf} {u : US} {pos : Pos} (hi : UI G X (.Name x xpos) e src B) (hb : UFs G X j body u) (hN : X.N.Nodup) (hij : j ∉ [l] := by decide) (hB : j ∉ B := by decide) (hxi : X.N[l]? = some x := by rfl) (hx : Loc X.env.scope x := by first | exact Or.inl rfl | exact Or.inr rfl) (hxf : X.fn x = true ∨ X.env.scope.names.lookup x = some .local := by first | exact .inl rfl | exact .inr rfl)
    (hp : PassesOwn (model X.prog X.w) X.A X.env X.xe := by exact PassesOwn.never) (hc : X.calm = true := by rfl)
    (hs : ∀ x, foldedSetIterable e X.env x = pure x := by intro _; rfl) : UFt G X j (.For (.Name x xpos) e body [] pos) (uFor src B (gVar l) u) := ⟨PS.weak (ps_for hp hc hi.pi (pg_name hN hxi hx hxf) hb.ps hs) fun D' σ H ⟨He, S0, P, own, δ, n, r, qa, ok, ho, hf, k⟩ => by
  unfold uFor at hf
  split at hf
  · rename_i ds h1
    refine ⟨He, S0, P, own, δ, ds, ok, h1, fun J ps H1 k1 pin w => ?_⟩
    have ok1 : OK G He H1 S0 (ps ++ P) (ownB own B) σ (dem B δ) := ((ok.keep k1).dem B).pins fun q hq => (List.mem_append.mp hq).elim (fun z => (pin q z).mono fun a z _ => av_ownB z) fun z => ((ok.keep k1).dem B).pin q z
    have unp : ∀ {σ' H' own' δ'}, OK G He H' S0 (ps ++ P) own' σ' δ' → OK G He H' S0 P own' σ' δ' := fun q => q.pins fun x hx => q.pin x (List.mem_append_right _ hx)
    have pp : ∀ {σ' H' own' δ'}, OK G He H' S0 (ps ++ P) own' σ' δ' → PinOk G H' (Av S0 own') ps := fun q x hx => q.pin x (List.mem_append_left _ hx)
    refine ⟨fun i m σ H => m = ds.length - i ∧ i ≤ ds.length ∧ ∃ own δ, OK G He H S0 (ps ++ P) own σ δ ∧ own j qa ∧ uFs (gVar l) u n (ds.drop i) δ = some r, ⟨ds.length, by omega, Nat.zero_le _, _, _, ok1, ownB_at hB ho, hf⟩, ?_⟩
    rintro i m σ H ⟨rfl, hi, own, δ, ok, ho, hf⟩
    by_cases hlt : i < ds.length
    · refine .inr ⟨w.go _ i H (pp ok) hlt, fun σ' H' => ∃ own' δ', OK G He H' S0 (ps ++ P) own' σ' δ' ∧ own' j qa ∧ uFs (gVar l) u n (ds.drop (i + 1)) δ' = some r, fun σ' H' q => ⟨ds.length - (i + 1), by omega, rfl, hlt, q⟩, fun x H' y => ?_⟩
      obtain ⟨d, e1, k2, rx⟩ := w.yld _ i H x H' (pp ok) hlt y
      rw [List.drop_eq_getElem_cons hlt] at hf
      have e2 : ds[i] = d := by rw [List.getElem?_eq_getElem hlt] at e1; exact Option.some.inj e1
      rw [e2] at hf
      unfold uFs at hf
      split at hf
      · cases hf
      · rename_i δ1 e3
        have e3' : (δ.set l (some (SV.sh d))) = δ1 := Option.some.inj e3
        have ok2 := (ok.keep k2).set l (rx.mono fun a z _ => av_ownB' z)
        rw [e3'] at ok2
        have ho2 := ownB_at hij ho
        split at hf
        · rename_i δ' e4
          exact ⟨He, S0, ps ++ P, _, δ1, n, _, qa, ok2, ho2, e4, fun σ' H' own' ok' ho' => ⟨own', δ', ok', ho', hf⟩⟩
        · rename_i δ' e4
          exact ⟨He, S0, ps ++ P, _, δ1, n, _, qa, ok2, ho2, e4, fun σ' H' own' ok' ho' => ⟨own', δ', ok', ho', hf⟩⟩
        · rename_i δ' e4
          cases hf
          exact ⟨He, S0, ps ++ P, _, δ1, n, _, qa, ok2, ho2, e4, fun σ' H' own' ok' ho' => k σ' H' own' (unp ok') ho'⟩
        · rename_i r' e4
          cases hf
          exact ⟨He, S0, ps ++ P, _, δ1, n, _, qa, ok2, ho2, e4, k⟩
        · cases hf
    · have e : i = ds.length := by omega
      subst e
      rw [List.drop_length] at hf
      cases hf
      exact .inl ⟨w.stop _ _ H (pp ok) (Nat.le_refl _), k σ H own (unp ok) ho⟩
  · cases hf⟩
end
/-! ### the def's promise -/
def delA (H : Hp) (a : Addr) : Hp := fun b => if b = a then none else H b
def startW (N j : Nat) (ds : List D) (dj : List D) : DS := (startD N ds).set j (some (.ol dj))
def lstAt (ds : List D) (j : Nat) : Option (List D) := match ds[j]? with | some (.lst xs) => some xs | _ => none
/-- the list j as it is left, and the own list at the name i that is handed back -/
def runW (f : US) (fuel N j i : Nat) (ds : List D) : Option (List D × List D) := match lstAt ds j with
  | none => none
  | some dj => match f fuel (startW N j ds dj) with
    | some (.nx δ) => match own1 δ j, own1 δ i with
      | some x, some y => some (x, y)
      | _, _ => none
    | _ => none
def uSpW (G : GG) (n j : Nat) (F : List D → Option (List D × List D)) : Sp := fun vs H Q _ => ∃ S0 ds dj r1 r2 a xs, vs.length = n ∧ ds.length = n ∧ (∀ b, S0 b → H b ≠ none) ∧ TabOk G H ∧ vs[j]? = some (.ref a) ∧ ds[j]? = some (.lst dj) ∧ H a = some (.lst xs) ∧
  Reps G H S0 xs dj ∧ flats dj = true ∧ ¬ S0 a ∧ (∀ i v d, i ≠ j → vs[i]? = some v → ds[i]? = some d → Rep G H (fun b => S0 b ∨ b = a) v d) ∧ F ds = some (r1, r2) ∧
  ∀ p ys zs H', Keep (delA H a) H' → H p = none → H' a = some (.lst ys) → H' p = some (.lst zs) → (flats r1 = true → Reps G H' S0 ys r1) → (flats r2 = true → Reps G H' S0 zs r2) → Q (.ref p) H'
theorem uf_fn {P : Program} {w : World} {G : GG} {mg : Str → Option Value} {base : Heap} {x qual : Str} {st s1 s2 : Stmt} {f : Addr} {fd : FuncData} {N ps : List Str} {k n j i fuel : Nat} {u1 u2 : US} {y : Str} {yp rpos : Pos} (FF : Fun G.K x qual st f fd) (S : FnScope N ps (defScope st)) (hn : ps.length = n) (hbody : defBody st = [s1, s2, .Return (some (.Name y yp)) rpos])
    (h1 : ∀ (cdv : Value) (A : Around) (outer : List Env) (s : Shared) (H : Hp) (E : XK), Room k (A.deeper (PyProof.Rows.envOfC qual (defScope st) s.heap.objs.size f cdv)) →
      UFt G (cxOf CX0 P w G.K mg base N qual (defScope st) f cdv A outer s H E).nox j s1 u1)
    (h2 : ∀ (cdv : Value) (A : Around) (outer : List Env) (s : Shared) (H : Hp) (E : XK), Room k (A.deeper (PyProof.Rows.envOfC qual (defScope st) s.heap.objs.size f cdv)) →
      UFt G (cxOf CX0 P w G.K mg base N qual (defScope st) f cdv A outer s H E).nox j s2 u2)
    (hi : N[i]? = some y) (hij : i ≠ j) (hjn : n ≤ N.length) (hv : Vis (defScope st) y := by first | exact Or.inl rfl | exact Or.inr (Or.inl rfl) | exact Or.inr (Or.inr rfl)) (hd : (y == ("__debug__" : Str)) = false := by decide)
    (hcd : (y == ("__classdict__" : Str)) = false := by decide) : FnOk P w G.K mg base CX0 (k + 1) f fd ps (uSpW G n j (runW (uSeq u1 u2) fuel N.length j i)) := by
  refine FF.ok S (fun vs H Q E ⟨S0, ds, dj, r1, r2, a, xs, hl, _⟩ => by rw [hl, hn]) fun cdv A outer s H vs Q E hr ⟨S0, ds, dj, r1, r2, a, xs, hl, hl2, hs, ht, hva, hda, hH, rj, fj, nS, ro, hF, q⟩ => ?_
  refine ⟨_, by rw [hbody]; exact pss_cons (h1 cdv A outer s H E hr).ps (pss_cons (h2 cdv A outer s H E hr).ps (pss_one (ps_ret (pe_var (X := (cxOf CX0 P w G.K mg base N qual (defScope st) f cdv A outer s H E).nox) hi hv hd hcd)))), ?_⟩
  have hj : j < n := by have := (List.getElem?_eq_some_iff.mp hva).1; omega
  have kd : Keep (delA H a) H := fun b o e => by
    unfold delA at e
    split at e
    · cases e
    · exact .inl e
  have ok0 : OK G (delA H a) H S0 [] (fun l b => l = j ∧ b = a) (L2.start N vs) (startW N.length j ds dj) := by
    have hlen : (L2.start N vs).length = (startD N.length ds).length := by unfold L2.start startD; simp [hl, hl2]
    have hN : (startD N.length ds).length = N.length := by unfold startD; simp [hl2]; omega
    have av : ∀ b, Av S0 (fun l b => l = j ∧ b = a) b → S0 b ∨ b = a := fun b z => z.elim .inl fun ⟨l, e⟩ => .inr e.2
    refine ⟨by unfold startW; rw [List.length_set]; exact hlen, kd, ht.sub (fun b g ps e => by unfold delA; rw [if_neg (fun z => by rw [z, hH] at e; cases e)]; exact e) (fun b o u e => by unfold delA; rw [if_neg (fun z => by rw [z, hH] at e; cases e)]; exact e), hs, fun l b e z => ?_, fun l s e => ?_, fun l b e => ?_, fun l m b e1 e2 => ?_, fun p hp => by cases hp⟩
    · rw [e.2] at z; exact nS z
    · unfold startW at e
      by_cases hlj : l = j
      · subst hlj
        rw [List.getElem?_set_self (by rw [hN]; omega)] at e
        cases e
        refine ⟨a, xs, ?_, fun b => ⟨fun z => z.2, fun z => ⟨rfl, z⟩⟩, hH, rj.flt fj _ _⟩
        unfold L2.start
        rw [List.getElem?_append_left (by rw [List.length_map, hl]; exact hj), List.getElem?_map, hva]; rfl
      · rw [List.getElem?_set_ne (fun z => hlj z.symm)] at e
        unfold startD at e
        rw [List.getElem?_append] at e
        split at e
        · rename_i hlt
          rw [List.getElem?_map] at e
          cases qd : ds[l]? with
          | none => rw [qd] at e; cases e
          | some d =>
            rw [qd] at e
            cases e
            have hlv : l < vs.length := by rw [List.length_map] at hlt; omega
            refine ⟨vs[l], ?_, (ro l _ d hlj (List.getElem?_eq_getElem hlv) qd).mono fun b z _ => av b z⟩
            unfold L2.start
            rw [List.getElem?_append_left (by rw [List.length_map]; exact hlv), List.getElem?_map, List.getElem?_eq_getElem hlv]; rfl
        · rw [List.getElem?_replicate] at e
          split at e <;> cases e
    · rw [e.2]; exact ⟨if_pos rfl, .inl ⟨xs, hH⟩⟩
    · rw [e1.1, e2.1]
  unfold runW at hF
  have hla : lstAt ds j = some dj := by unfold lstAt; rw [hda]
  rw [hla] at hF
  simp only at hF
  split at hF
  · rename_i δ e
    split at hF
    · rename_i y1 y2 e1 e2
      obtain ⟨rfl, rfl⟩ := Prod.mk.inj (Option.some.inj hF)
      unfold uSeq at e
      split at e
      · rename_i δ1 e0
        refine ⟨delA H a, S0, [], _, _, fuel, _, a, ok0, ⟨rfl, rfl⟩, e0, fun σ1 H1 own1' ok1 ho1 => ?_⟩
        refine ⟨delA H a, S0, [], _, _, fuel, _, a, ok1, ho1, e, fun σ2 H2 own2 ok2 ho2 => ?_⟩
        obtain ⟨p, zs, g1, g2, g3, g4⟩ := ok2.val i _ (own1_of e2)
        obtain ⟨p', ys, f1, f2, f3, f4⟩ := ok2.val j _ (own1_of e1)
        obtain rfl := (f2 a).mp ho2
        have g2' := (g2 p).mpr rfl
        have hpa : p ≠ a := fun z => hij (ok2.inj i j a (z ▸ g2') ho2)
        have hp0 : H p = none := by have := (ok2.ow i p g2').1; unfold delA at this; rw [if_neg hpa] at this; exact this
        exact ⟨_, g1, q p ys zs H2 ok2.kp hp0 f3 g3 (fun fl => f4.flt fl _ _) (fun fl => g4.flt fl _ _)⟩
      · rename_i hne
        exact absurd e (hne _)
    · cases hF
  · cases hF
/-- a def of the text that changes the list handed in as the j-th -/
structure FnW (P : Program) (w : World) (K : PySem.W.Frag) (mg : Str → Option Value) (base : Heap) (G : GG) (x : Str) (k n j : Nat) (F : List D → Option (List D × List D)) : Prop where
  ex : ∃ f fd ps, FnOk P w K mg base CX0 k f fd ps (uSpW G n j F) ∧ mg x = some (.ref f) ∧ PySem.W.keepIn K (.ref f) = true ∧ Binds K fd ps []
theorem fnW {P : Program} {w : World} {G : GG} {mg : Str → Option Value} {base : Heap} {x : Str} {st s1 s2 : Stmt} {N ps : List Str} {k n j i fuel : Nat} {u1 u2 : US} {y : Str} {yp rpos : Pos} (dd : Def1 G.K mg x st ps) (S : FnScope N ps (defScope st)) (hn : ps.length = n) (hbody : defBody st = [s1, s2, .Return (some (.Name y yp)) rpos])
    (h1 : ∀ (f : Addr) (cdv : Value) (A : Around) (outer : List Env) (s : Shared) (H : Hp) (E : XK), Room k (A.deeper (PyProof.Rows.envOfC x (defScope st) s.heap.objs.size f cdv)) →
      UFt G (cxOf CX0 P w G.K mg base N x (defScope st) f cdv A outer s H E).nox j s1 u1)
    (h2 : ∀ (f : Addr) (cdv : Value) (A : Around) (outer : List Env) (s : Shared) (H : Hp) (E : XK), Room k (A.deeper (PyProof.Rows.envOfC x (defScope st) s.heap.objs.size f cdv)) →
      UFt G (cxOf CX0 P w G.K mg base N x (defScope st) f cdv A outer s H E).nox j s2 u2)
    (hi : N[i]? = some y) (hij : i ≠ j) (hjn : n ≤ N.length) (hv : Vis (defScope st) y := by first | exact Or.inl rfl | exact Or.inr (Or.inl rfl) | exact Or.inr (Or.inr rfl)) (hd : (y == ("__debug__" : Str)) = false := by decide)
    (hcd : (y == ("__classdict__" : Str)) = false := by decide) : FnW P w G.K mg base G x (k + 1) n j (runW (uSeq u1 u2) fuel N.length j i) := by
  obtain ⟨f, fd, FF, hm, hb⟩ := dd.ex
  exact ⟨f, fd, ps, uf_fn FF S hn hbody (h1 f) (h2 f) hi hij hjn hv hd hcd, hm, FF.kp, hb⟩
/-- t = f(v0, v1, v2, v3): the list of v2 is changed -/
def uCallW (F : List D → Option (List D × List D)) (i0 i1 i2 i3 t : Nat) : US := fun _ δ => match uVar i0 δ, uVar i1 δ, own1 δ i2, uVar i3 δ with
  | some d0, some d1, some dn, some d3 => match F [d0, d1, .lst dn, d3] with
    | some (r1, r2) => if flats dn && flats r1 && flats r2 then some (.nx ((δ.set i2 (some (.ol r1))).set t (some (.ol r2)))) else none
    | none => none
  | _, _, _, _ => none
theorem uVar_of {i : Nat} {δ : DS} {d : D} (h : uVar i δ = some d) : ∃ s, δ[i]? = some (some s) ∧ s.d = d := by
  unfold uVar at h
  split at h
  · rename_i s e; exact ⟨s, e, Option.some.inj h⟩
  · cases h
theorem OK.varW {G : GG} {He H : Hp} {S0 : Addr → Prop} {P : List (V × D)} {own : Nat → Addr → Prop} {σ : L2.St} {δ : DS} (ok : OK G He H S0 P own σ δ) {i i2 i3 : Nat} {d : D} {a : Addr} (h : uVar i δ = some d) (ha : own i2 a) (hi : i ≠ i2) (B : List Nat) (hB : i ∈ B) (h2 : i2 ∈ B) : ∃ v, σ[i]? = some (some v) ∧ Rep G H (fun b => AvB S0 own B b ∨ b = a) v d := by
  obtain ⟨s, e, rfl⟩ := uVar_of h
  obtain ⟨v, h1, r⟩ := ok.var e
  refine ⟨v, h1, r.mono fun b z n => ?_⟩
  rcases z with z | z
  · exact avB_mono (fun l m => by rw [List.mem_singleton.mp m]; exact hB) z
  · exact .inr ⟨i2, fun m => hi (List.mem_singleton.mp m).symm, by rw [z]; exact ha⟩
theorem us_callW {G : GG} {X : Cx} {x t x0 x1 x2 x3 : Str} {k j i0 i1 i2 i3 it : Nat} {F : List D → Option (List D × List D)} {p p0 p1 p2 p3 pt cpos pos : Pos} (hF : FnW X.prog X.w X.K X.mg X.base G x j 4 2 F) (hr : Room k X.A) (hj : j ≤ k) (hN : X.N.Nodup)
    (n0 : i0 ≠ i2 := by decide) (n1 : i1 ≠ i2 := by decide) (n3 : i3 ≠ i2 := by decide) (nt : it ≠ i2 := by decide)
    (h0 : X.N[i0]? = some x0 := by rfl) (h1 : X.N[i1]? = some x1 := by rfl) (h2 : X.N[i2]? = some x2 := by rfl) (h3 : X.N[i3]? = some x3 := by rfl) (ht : X.N[it]? = some t := by rfl)
    (v0 : Vis X.env.scope x0 := by first | exact Or.inl rfl | exact Or.inr (Or.inl rfl) | exact Or.inr (Or.inr rfl)) (v1 : Vis X.env.scope x1 := by first | exact Or.inl rfl | exact Or.inr (Or.inl rfl) | exact Or.inr (Or.inr rfl))
    (v2 : Vis X.env.scope x2 := by first | exact Or.inl rfl | exact Or.inr (Or.inl rfl) | exact Or.inr (Or.inr rfl)) (v3 : Vis X.env.scope x3 := by first | exact Or.inl rfl | exact Or.inr (Or.inl rfl) | exact Or.inr (Or.inr rfl))
    (d0 : (x0 == ("__debug__" : Str)) = false := by decide) (d1 : (x1 == ("__debug__" : Str)) = false := by decide) (d2 : (x2 == ("__debug__" : Str)) = false := by decide) (d3 : (x3 == ("__debug__" : Str)) = false := by decide)
    (c0 : (x0 == ("__classdict__" : Str)) = false := by decide) (c1 : (x1 == ("__classdict__" : Str)) = false := by decide) (c2 : (x2 == ("__classdict__" : Str)) = false := by decide) (c3 : (x3 == ("__classdict__" : Str)) = false := by decide)
    (hx : Loc X.env.scope t := by first | exact Or.inl rfl | exact Or.inr rfl)
    (hs : swapsWith (.Call (.Name x p) [.Name x0 p0, .Name x1 p1, .Name x2 p2, .Name x3 p3] [] cpos) (some (.Name t pt)) pos.line X.env = pure false := by rfl)
    (hfn : X.fn t = true ∨ X.env.scope.names.lookup t = some .local := by first | exact .inl rfl | exact .inr rfl)
    (hg : L2.Gl X x := by rfl) (hdb : (x == ("__debug__" : Str)) = false := by decide)
    (e0 : starEach [.Name x0 p0, .Name x1 p1, .Name x2 p2, .Name x3 p3] X.env = (false, eval (.Name x0 p0) X.env) :: starEach [.Name x1 p1, .Name x2 p2, .Name x3 p3] X.env := by rfl)
    (e1 : starEach [.Name x1 p1, .Name x2 p2, .Name x3 p3] X.env = (false, eval (.Name x1 p1) X.env) :: starEach [.Name x2 p2, .Name x3 p3] X.env := by rfl)
    (e2 : starEach [.Name x2 p2, .Name x3 p3] X.env = (false, eval (.Name x2 p2) X.env) :: starEach [.Name x3 p3] X.env := by rfl)
    (e3 : starEach [.Name x3 p3] X.env = (false, eval (.Name x3 p3) X.env) :: starEach [] X.env := by rfl)
    (hpl : (backTo cpos (starEach [.Name x1 p1, .Name x2 p2, .Name x3 p3] X.env)).any (·.1) = false := by rfl) :
    USt G X (.Assign [.Name t pt] (.Call (.Name x p) [.Name x0 p0, .Name x1 p1, .Name x2 p2, .Name x3 p3] [] cpos) pos) (uCallW F i0 i1 i2 i3 it) := by
  obtain ⟨fa, fd, ps, hF, hm, hk, hb⟩ := hF.ex
  refine ⟨PS.weak (ps_set hN ht hx (pe_call (CX := CX0) (E := E0) (dvs := []) hF (hr.mono hj) hg hm hk hb .nil pass0 (pa_cons (pe_var h0 v0 d0 c0) (pa_cons (pe_var h1 v1 d1 c1) (pa_cons (pe_var h2 v2 d2 c2) (pa_cons (pe_var h3 v3 d3 c3) pa_nil e3) e2) e1) e0) hdb e0 hpl) hs hfn) fun D' σ H ⟨He, S0, P, own, δ, n, r, ok, hf, kk⟩ => ?_⟩
  unfold uCallW at hf
  split at hf
  · rename_i w0 w1 dn w3 q0 q1 q2 q3
    split at hf
    · rename_i r1 r2 hr12
      split at hf
      · rename_i hfl
        cases hf
        simp only [Bool.and_eq_true] at hfl
        obtain ⟨⟨fn, f1⟩, f2⟩ := hfl
        have q2' := own1_of q2
        obtain ⟨a, xs, g1, g2x, g3, g4⟩ := ok.val i2 _ q2'
        have g2 := (g2x a).mpr rfl
        obtain ⟨u0, s0, R0⟩ := ok.varW (i3 := i3) q0 g2 n0 [i0, i1, i2, i3] (by simp) (by simp)
        obtain ⟨u1, s1, R1⟩ := ok.varW (i3 := i3) q1 g2 n1 [i0, i1, i2, i3] (by simp) (by simp)
        obtain ⟨u3, s3, R3⟩ := ok.varW (i3 := i3) q3 g2 n3 [i0, i1, i2, i3] (by simp) (by simp)
        refine ⟨u0, s0, u1, s1, _, g1, u3, s3, AvB S0 own [i0, i1, i2, i3], [w0, w1, .lst dn, w3], dn, r1, r2, a, xs, rfl, rfl, fun b z => ok.avSome z, ok.tab.keep ok.kp, rfl, rfl, g3, g4.flt fn _ _, fn, ?_, ?_, hr12, ?_⟩
        · rintro (z | ⟨l, hl, z⟩)
          · exact ok.ns _ _ g2 z
          · exact hl (by rw [ok.inj l i2 a z g2]; simp)
        · intro i v d hi hv hd
          match i, hi, hv, hd with
          | 0, _, hv, hd => cases hv; cases hd; exact R0
          | 1, _, hv, hd => cases hv; cases hd; exact R1
          | 2, hi, _, _ => exact absurd rfl hi
          | 3, _, hv, hd => cases hv; cases hd; exact R3
          | i + 4, _, hv, hd => cases hv
        · intro p ys zs H' kp hp ha' hp' ry rz
          have okw := ok.write (ys := ys) (es := r1) q2' g2 g3 ((ry f1).flt f1 _ _)
          have hpa : p ≠ a := fun z => by rw [z, g3] at hp; cases hp
          have kw : Keep (upd H a (.lst ys)) H' := kp.from (fun b o e => by
            by_cases hba : b = a
            · subst hba; rw [upd_same] at e; cases e; exact .inl ha'
            · rw [upd_ne hba] at e
              exact .inr (by unfold delA; rw [if_neg hba]; exact e)) fun b o e => by
            by_cases hba : b = a
            · subst hba; rw [upd_same] at e; cases e
            · rw [upd_ne hba] at e
              unfold delA; rw [if_neg hba]; exact e
          exact kk _ H' _ (okw.setL kw it (by rw [upd_ne hpa]; exact hp) hp' ((rz f2).flt f2 _ _))
      · cases hf
    · cases hf
  · cases hf
end U
end
section
set_option Elab.async false
set_option linter.all false
set_option maxRecDepth 100000
set_option maxHeartbeats 1000000
/-! Three names at once. -/
namespace L2
open PySem PySem.Spec PyProof.Rows
variable {X : Cx} {pos : Pos}
end L2
namespace U
open PySem PySem.Spec L2
variable {G : GG} {X : Cx} {a b c : Expr} {pos : Pos} {f : UEf} {fa fb : ULf} {Ba Bb B : List Nat}
theorem flat_add {f g : UEf} : ∀ δ d, uOp dAdd f g δ = some d → d.flat = true := fun δ d e => by
  unfold uOp at e
  split at e
  · obtain ⟨i, j, _, _, _, rfl⟩ := dI_of e; rfl
  · cases e
end U
end
section
set_option Elab.async false
set_option linter.all false
set_option maxRecDepth 100000
set_option maxHeartbeats 1000000
/-! The least of what is not None; stars; an item's place; str of a pair. -/
namespace U
open PySem PySem.Spec L2 PyProof.Rows
end U
end
section
set_option Elab.async false
set_option linter.all false
set_option maxRecDepth 100000
set_option maxHeartbeats 1000000
/-! Stars, the least of what is not None, an item's place, str of nested data. -/
namespace L2
open PySem PySem.Spec PyProof.Rows
def tStar (K : PySem.W.Frag) (te : TE) (t : TA) : TA := fun σ H Q => te σ H fun x H1 => ∃ a xs, x = .ref a ∧ SqL K H1 a xs ∧ t σ H1 fun ys H2 => Q (xs ++ ys) H2
theorem pa_star {X : Cx} {e : Expr} {es : List Expr} {te : TE} {t : TA} {p : Pos} (ha : PE X e te) (hr : PA X es t) (hs : starEach (.Starred e p :: es) X.env = (true, eval e X.env) :: starEach es X.env := by rfl) : PA X (.Starred e p :: es) (tStar X.K te t) := by
  intro pos pins s σ H Q I h
  refine PySem.W.items_star (thn (ha pins s σ H _ I h) fun u s1 ⟨x, H1, I1, r1, q1⟩ => ?_) hs
  obtain ⟨a, xs, rfl, hsq, q1⟩ := q1
  obtain rfl : u = Value.ref a := r1
  obtain ⟨its, rv, ⟨o, n, e1, hc, hd, hdat⟩, hz⟩ := I1.list hsq
  have hT : s1.TypeIs (.ref a) "list" := ⟨o, e1, hc⟩
  unfold PySem.W.StarOf notIterableAtAll
  refine wpAny_bind (wpAny_specialOf hT PySem.F.slot_list_iter.lookup (wpAny_pure ⟨rfl, ?_⟩))
  refine wpAny_collect_seq a (.inl rfl) e1 hc hdat (fun h' hk => ?_) (by rw [List.size_toArray]; have := rv.length; omega)
  have I2 := I1.kept (h' := h') (t' := s1.toks) hk
  exact thn (hr pos pins _ σ H1 _ I2 q1) fun us s2 ⟨ys, H2, I3, r2, q2⟩ => ⟨xs ++ ys, H2, I3, rv.append r2, q2⟩
end L2
namespace U
open PySem PySem.Spec L2
section
variable {G : GG} {X : Cx} {e o : Expr} {es : List Expr} {f g : UEf} {fs : ULf} {Ba Bb B : List Nat} {pos p : Pos} {k : Nat}
def uStar (f : UEf) (g : ULf) : ULf := fun δ => match f δ, g δ with
  | some (.lst xs), some ys => some (xs ++ ys)
  | _, _ => none
theorem ua_star (ha : UE G X e f Ba) (hr : UA G X es fs Bb) (hs : starEach (.Starred e p :: es) X.env = (true, eval e X.env) :: starEach es X.env := by rfl) : UA G X (.Starred e p :: es) (uStar f fs) (Ba ++ Bb) := ⟨PA.weak (pa_star ha.pe hr.pa hs) fun σ H Q ⟨He, S0, P, own, δ, ds, ok, hf, kk⟩ => by
  unfold uStar at hf
  split at hf
  · rename_i xs ys h1 h2
    cases hf
    refine ⟨He, S0, P, own, δ, _, ok, h1, fun v H1 k1 r1 => ?_⟩
    cases r1 with
    | lst hh n r =>
      refine ⟨_, _, rfl, SqL.of hh, He, S0, P, own, δ, ys, ok.keep k1, h2, fun us H2 k2 r2 => kk _ H2 (k1.trans k2) ?_⟩
      exact ((r.keep k2).mono fun a z _ => avB_mono (fun i m => List.mem_append_left _ m) z).append (r2.mono fun a z _ => avB_mono (fun i m => List.mem_append_right _ m) z)
  · cases hf⟩
/-! ### min(x for x in xs if x is not None) -/
/-! ### xs.index(n), numbers and None -/
end
/-! ### str of nested data -/
section
variable {G : GG} {X : Cx} {e : Expr} {fs : ULf} {B : List Nat} {pos p : Pos} {k : Nat}
end
/-! ### a name set to a tuple of flat items -/
end U
end
section
set_option Elab.async false
set_option linter.all false
set_option maxRecDepth 100000
set_option maxHeartbeats 1000000
/-! Own lists or None handed back; two names at once, captured ones too; x.pop(0); places of the ring. -/
namespace U
open PySem PySem.Spec L2
section
variable {G : GG} {X : Cx} {a b c e o : Expr} {es : List Expr} {f g : UEf} {fs gs : ULf} {Ba Bb B : List Nat} {pos p : Pos} {x : Str} {k j n : Nat} {F : List D → Option SV} {tc : UTf}
/-- return [..] if c else e -/
def uRetS (c : UTf) (f : ULf) (g : UEf) : US := fun _ δ => match c δ with
  | some true => (f δ).map fun xs => .rt (.ol xs)
  | some false => (g δ).map fun d => .rt (.sh d)
  | none => none
theorem us_retS {ipos : Pos} (hc : UT G X c tc) (ha : UL G X a fs Ba) (hb : UE G X b g Bb) : USt G X (.Return (some (.IfExp c a b ipos)) pos) (uRetS tc fs g) := ⟨PS.weak (ps_ret (pe_ifExp hc.pt ha.pe hb.pe)) fun D' σ H ⟨He, S0, P, own, δ, n, r, ok, hf, k⟩ => by
  unfold uRetS at hf
  split at hf
  · rename_i e
    obtain ⟨xs, e1, rfl⟩ := Option.map_eq_some_iff.mp hf
    refine ⟨He, S0, P, own, δ, _, ok, e, fun H1 k1 => iteT ?_⟩
    exact ⟨He, S0, P, own, δ, xs, ok.keep k1, e1, fun p ys H2 k2 n1 e2 r2 => k p ys H2 (ok.kp.trans (k1.trans k2)) (ok.kp.free (k1.free n1)) e2 (r2.mono fun a z _ => z.imp .inl id)⟩
  · rename_i e
    obtain ⟨d, e1, rfl⟩ := Option.map_eq_some_iff.mp hf
    refine ⟨He, S0, P, own, δ, _, ok, e, fun H1 k1 => iteF ?_⟩
    exact ⟨He, S0, P, own, δ, d, ok.keep k1, e1, fun v H2 k2 r2 => k v H2 (ok.kp.trans (k1.trans k2)) (r2.mono fun a z _ => .inl z)⟩
  · cases hf⟩
end
/-! ### places of the ring -/
end U
end
section
set_option Elab.async false
set_option linter.all false
set_option maxRecDepth 100000
set_option maxHeartbeats 1000000
/-! Objects that are made, never changed after: C(..), o.f, o.m(..). -/
namespace U
open PySem PySem.Spec PyProof.Rows L2
/-- a class of the text: how it is made -/
structure KOk (K : PySem.W.Frag) (mg : Str → Option Value) (C : Addr) (x qi : Str) (si : Stmt) (fl : List Str) : Prop where
  m : mg x = some (.ref C)
  c : Cls K C
  na : ∀ f ∈ fl, NoAttr K C f
  ini : ∃ f fd, Mk K C f ∧ Fun K "__init__" qi si f fd ∧ Binds K fd ("self" :: fl) []
/-- a method of the class -/
structure MOk (K : PySem.W.Frag) (C : Addr) (m qm : Str) (st : Stmt) (ps : List Str) : Prop where
  ex : ∃ f fd, Meth K C m f ∧ Fun K m qm st f fd ∧ Binds K fd ps []
/-- the address of a class, by its name -/
def clsOf (mg : Str → Option Value) (x : Str) : Addr := match mg x with | some (.ref a) => a | _ => 0
theorem clsOf_eq {mg : Str → Option Value} {x : Str} {C : Addr} (h : mg x = some (.ref C)) : clsOf mg x = C := by unfold clsOf; rw [h]
theorem kok_mk {K : PySem.W.Frag} {h : Heap} {mg : Str → Option Value} {C f : Addr} {x qi : Str} {si : Stmt} {fl : List Str} {oc : Value} {od an : Option Addr} {osl : Array (Option Value)} {kV doc pm cdv ct : Value} (X : K.In h) (Gn : h.Ns mainGlobals mg)
    (hb : ∀ (kV doc pm : Value) (an : Option Addr) (cdv ct : Value) (us : List Value), us.length = ((("self" : Str) :: fl)).length → bindArgs (PySem.W.fnOf "__init__" qi (defArgs si) (defBody si) (defScope si) .none kV doc pm an cdv ct) ⟨us, []⟩ = pure ((("self" : Str) :: fl).zip us))
    (aC : PySem.W.nsIn K mainGlobals x = some (some (.ref C)))
    (a1 : PySem.W.findIn K (.ref C) "__init__" = some (some (.ref f))) (i1 : PySem.W.isFn K (.ref f) = true) (l1 : K.lookup f = some ⟨oc, od, .func (PySem.W.fnOf "__init__" qi (defArgs si) (defBody si) (defScope si) .none kV doc pm an cdv ct), osl⟩) (c1 : PySem.W.codeIn K cdv qi = true) (k1 : PySem.W.keepIn K (.ref f) = true)
    (pg : PySem.W.plainGet K C Str.empty = true) (hd : PySem.W.hasDictIn K C = true) (po : PySem.W.plainOver K C = true) (sa : PySem.W.findIn K (.ref C) "__setattr__" = some (some (.builtin "object.__setattr__"))) (mk : PySem.W.makesIn K C = true) (kc : PySem.W.keepIn K (.ref C) = true)
    (na : ∀ y ∈ fl, PySem.W.findIn K (.ref C) y = some none) : KOk K mg (clsOf mg x) x qi si fl := by
  have hm := PySem.W.mg_of X Gn aC
  rw [clsOf_eq hm]
  have F := fun_mk (st := si) l1 c1 k1
  exact ⟨hm, ⟨pg, hd, po, sa⟩, na, f, _, ⟨mk, a1, i1, kc⟩, F, F.binds hb⟩
theorem mok_mk {K : PySem.W.Frag} {h : Heap} {mg : Str → Option Value} {C f : Addr} {x m qm : Str} {st : Stmt} {ps : List Str} {oc : Value} {od an : Option Addr} {osl : Array (Option Value)} {kV doc pm cdv ct : Value} (X : K.In h) (Gn : h.Ns mainGlobals mg)
    (hb : ∀ (kV doc pm : Value) (an : Option Addr) (cdv ct : Value) (us : List Value), us.length = ps.length → bindArgs (PySem.W.fnOf m qm (defArgs st) (defBody st) (defScope st) .none kV doc pm an cdv ct) ⟨us, []⟩ = pure (ps.zip us))
    (aC : PySem.W.nsIn K mainGlobals x = some (some (.ref C)))
    (a1 : PySem.W.findIn K (.ref C) m = some (some (.ref f))) (i1 : PySem.W.isFn K (.ref f) = true) (l1 : K.lookup f = some ⟨oc, od, .func (PySem.W.fnOf m qm (defArgs st) (defBody st) (defScope st) .none kV doc pm an cdv ct), osl⟩) (c1 : PySem.W.codeIn K cdv qm = true) (k1 : PySem.W.keepIn K (.ref f) = true) : MOk K (clsOf mg x) m qm st ps := by
  have hm := PySem.W.mg_of X Gn aC
  rw [clsOf_eq hm]
  have F := fun_mk (st := st) l1 c1 k1
  exact ⟨f, _, ⟨a1, i1, k1⟩, F, F.binds hb⟩
/-- what __init__ does: each parameter becomes the field of its name -/
def spI (C : Addr) (fl : List Str) : Sp := fun vs H Q _ => ∃ (x dx : Addr) (ws : List V), vs = .ref x :: ws ∧ ws.length = fl.length ∧ H x = some (.ins C dx []) ∧ ∀ H', (∀ b, b ≠ x → H' b = H b) → H' x = some (.ins C dx (fl.zip ws)) → Q .non H'
theorem fn_i1 {P : Program} {w : World} {K : PySem.W.Frag} {mg : Str → Option Value} {base : Heap} {C f : Addr} {x qi a : Str} {si : Stmt} {fd : FuncData} (k : KOk K mg C x qi si [a]) (FF : Fun K "__init__" qi si f fd) (S : FnScope ["self", a] ["self", a] (defScope si))
    (body : ∀ (cdv : Value) (A : Around) (outer : List Env) (s : Shared) (H : Hp) (E : XK), PSs (cxOf CX0 P w K mg base ["self", a] qi (defScope si) f cdv A outer s H E).nox (defBody si) (sFld K (tVar 0) (tVar 1) a)) :
    FnOk P w K mg base CX0 1 f fd ["self", a] (spI C [a]) := by
  refine FF.ok S (fun vs H Q E h => ?_) fun cdv A outer s H vs Q E hr h => ⟨_, body cdv A outer s H E, ?_⟩
  · obtain ⟨p, dx, ws, rfl, hl, _⟩ := h
    rw [List.length_cons, hl]; rfl
  · obtain ⟨p, dx, ws, rfl, hl, hp, q⟩ := h
    match ws, hl with
    | [w1], _ =>
      refine ⟨w1, rfl, .ref p, rfl, p, C, dx, [], rfl, hp, k.c, k.na a (by simp), by decide, q _ (fun b hb => upd_ne hb) upd_same⟩
/-- the promise of a class -/
structure Mk1 (P : Program) (w : World) (K : PySem.W.Frag) (mg : Str → Option Value) (base : Heap) (x : Str) (C : Addr) (fl : List Str) : Prop where
  m : mg x = some (.ref C)
  ex : ∃ f fd ps, Mk K C f ∧ FnOk P w K mg base CX0 1 f fd ps (spI C fl) ∧ Binds K fd ps []
/-- the promise of a method -/
structure Me1 (P : Program) (w : World) (K : PySem.W.Frag) (mg : Str → Option Value) (base : Heap) (G : GG) (c : Nat) (m : Str) (k n : Nat) (F : List D → Option SV) : Prop where
  cl : Cls K (G.cls c)
  nf : m ∉ G.flds c
  ex : ∃ f fd ps, Meth K (G.cls c) m f ∧ FnOk P w K mg base CX0 k f fd ps (uSp G n F) ∧ Binds K fd ps []
/-- a field can be read -/
structure Fd1 (K : PySem.W.Frag) (G : GG) (c i : Nat) (f : Str) : Prop where
  cl : Cls K (G.cls c)
  n : NoAttr K (G.cls c) f
  at_ : ∀ vs : List V, vs.length = (G.flds c).length → ((G.flds c).zip vs).lookup f = vs[i]?
  put_ : ∀ (vs : List V) (y : V), vs.length = (G.flds c).length → putF f y ((G.flds c).zip vs) = (G.flds c).zip (vs.set i y)
def uMake (c n : Nat) (fs : ULf) : UEf := fun δ => match fs δ with
  | some ds => if ds.length = n then some (.obj c ds) else none
  | none => none
def dFld (c i : Nat) : D → Option D
  | .obj c' xs => if c' = c then xs[i]? else none
  | _ => none
section
variable {G : GG} {X : Cx} {a b c e o : Expr} {es : List Expr} {f g h : UEf} {fs gs : ULf} {Ba Bb Bc B : List Nat} {pos p apos : Pos} {x : Str} {k j n ci i : Nat} {F : List D → Option SV}
theorem u_fld {fn : Str} (hF : Fd1 X.K G ci i fn) (ha : UE G X a f Ba) (hb : attributeBase a fn X.env (eval a X.env) = eval a X.env := by rfl) : UE G X (.Attribute a fn pos) (uUn (dFld ci i) f) Ba :=
  ⟨PE.weak (pe_fld ha.pe hb) fun σ H Q ⟨He, S0, P, own, δ, d, ok, hf, kk⟩ => by
    unfold uUn at hf
    split at hf
    · rename_i x0 h1
      unfold dFld at hf
      split at hf
      · rename_i c' xs
        split at hf
        · rename_i hc
          subst hc
          refine ⟨He, S0, P, own, δ, _, ok, h1, fun v H1 k1 r1 => ?_⟩
          cases r1 with
          | @obj a' dx _ vs _ hh hl hn rr =>
            obtain ⟨u, h2, h3⟩ := rr.get hf
            exact ⟨a', _, dx, _, u, rfl, hh, hF.cl, hF.n, by rw [hF.at_ vs hl, h2], kk u H1 k1 h3⟩
        · cases hf
      · cases hf
    · cases hf⟩
theorem u_make {fl : List Str} (hF : Mk1 X.prog X.w X.K X.mg X.base x (G.cls ci) fl) (hfl : G.flds ci = fl) (hr : Room k X.A) (hj : 2 ≤ k) (ha : UA G X (e :: es) fs B) (hn : n = fl.length)
    (hg : L2.Gl X x := by rfl) (hdb : (x == ("__debug__" : Str)) = false := by decide) (he : starEach (e :: es) X.env = (false, eval e X.env) :: starEach es X.env := by rfl) (hpl : (backTo pos (starEach es X.env)).any (·.1) = false := by rfl) : UE G X (.Call (.Name x p) (e :: es) [] pos) (uMake ci n fs) B := by
  obtain ⟨fa, fd, ps, M, FF, hb⟩ := hF.ex
  refine ⟨PE.weak (pe_make (CX := CX0) (E := E0) (dvs := []) M FF (hr.mono hj) hg hF.m hb .nil pass0 ha.pa hdb he hpl) fun σ H Q ⟨He, S0, P, own, δ, d, ok, hf, kk⟩ => ?_⟩
  unfold uMake at hf
  split at hf
  · rename_i ds h1
    split at hf
    · rename_i hl
      cases hf
      refine ⟨He, S0, P, own, δ, ds, ok, h1, fun vs H1 k1 r1 => ?_⟩
      intro y dy hy hdy hne
      have hlen : vs.length = fl.length := by rw [r1.length, hl, hn]
      refine ⟨y, dy, vs, by rw [List.append_nil], hlen, upd_same, fun H' hb1 hb2 => ⟨rfl, ?_⟩⟩
      have kp : Keep H1 H' := fun b u eb => .inl (by
        have n1 : b ≠ y := fun z => by rw [z, hy] at eb; cases eb
        have n2 : b ≠ dy := fun z => by rw [z, hdy] at eb; cases eb
        rw [hb1 b n1, upd_ne n1, upd_ne n2]; exact eb)
      refine kk _ H' (k1.trans kp) (.obj (dx := dy) (vs := vs) (by rw [hb2, hfl]) (by rw [hlen, hfl]) (fun z => (ok.keep k1).avSome z hy) (r1.keep kp))
    · cases hf
  · cases hf
theorem lookup_none {m : Str} : ∀ {fl : List Str} {vs : List V}, m ∉ fl → (fl.zip vs).lookup m = none
  | [], _, _ => rfl
  | _ :: _, [], _ => rfl
  | g :: fl, v :: vs, h => by
    show List.lookup m ((g, v) :: fl.zip vs) = none
    rw [List.lookup_cons, show (m == g) = false from beq_false_of_ne fun z => h (by rw [z]; exact List.mem_cons_self)]
    exact lookup_none fun z => h (List.mem_cons_of_mem _ z)
end
end U
end
section
set_option Elab.async false
set_option linter.all false
set_option maxRecDepth 100000
set_option maxHeartbeats 1000000
/-! Two classes at one place; is of bools; list(range(a, b)); methods; items of goes_into_all. -/
namespace U
open PySem PySem.Spec PyProof.Rows L2
section
variable {X : Cx}
end
section
variable {G : GG} {X : Cx} {a b c e o : Expr} {es : List Expr} {f g h : UEf} {fs gs : ULf} {Ba Bb Bc B : List Nat} {pos p p1 p2 apos : Pos} {x : Str} {k j n ci i : Nat} {F : List D → Option SV}
end
/-! ### list(range(a, b)) -/
/-! ### methods, fields, classes: from the facts of the text -/
theorem mk_i1 {P : Program} {w : World} {K : PySem.W.Frag} {mg : Str → Option Value} {base : Heap} {C : Addr} {x qi a : Str} {si : Stmt} (k : KOk K mg C x qi si [a]) (S : FnScope ["self", a] ["self", a] (defScope si))
    (body : ∀ (f : Addr) (cdv : Value) (A : Around) (outer : List Env) (s : Shared) (H : Hp) (E : XK), PSs (cxOf CX0 P w K mg base ["self", a] qi (defScope si) f cdv A outer s H E).nox (defBody si) (sFld K (tVar 0) (tVar 1) a)) : Mk1 P w K mg base x C [a] := by
  obtain ⟨f, fd, M, FF, hb⟩ := k.ini
  exact ⟨k.m, f, fd, _, M, fn_i1 k FF S (body f), hb⟩
theorem fd1 {G : GG} {K : PySem.W.Frag} {mg : Str → Option Value} {c i : Nat} {x qi f : Str} {si : Stmt} {fl : List Str} (k : KOk K mg (G.cls c) x qi si fl) (hfl : G.flds c = fl) (hi : f ∈ fl) (at_ : ∀ vs : List V, vs.length = fl.length → (fl.zip vs).lookup f = vs[i]?) (put_ : ∀ (vs : List V) (y : V), vs.length = fl.length → putF f y (fl.zip vs) = fl.zip (vs.set i y)) : Fd1 K G c i f :=
  ⟨k.c, k.na f hi, by rw [hfl]; exact at_, by rw [hfl]; exact put_⟩
/-! ### all(number % part == 0 for number in numbers): part is slot 0 -/
end U
end
section
set_option Elab.async false
set_option linter.all false
set_option maxRecDepth 100000
set_option maxHeartbeats 1000000
/-! xs.index(b) of truths. -/
namespace U
open PySem PySem.Spec PyProof.Rows L2
theorem Reps.bls {G : GG} {H : Hp} {S : Addr → Prop} : ∀ {vs : List V} (l : List Bool), Reps G H S vs (l.map D.bl) → vs = l.map V.bl
  | _, [], .nil => rfl
  | _, b :: l, .cons (.bl _) t => by rw [Reps.bls l t]; rfl
section
variable {G : GG} {X : Cx} {a b c e o : Expr} {es : List Expr} {f g h : UEf} {fs gs : ULf} {Ba Bb Bc B : List Nat} {pos p p1 p2 apos : Pos} {x : Str} {k j n ci i : Nat} {F : List D → Option SV}
end
end U
end
section
set_option Elab.async false
set_option linter.all false
set_option maxRecDepth 100000
set_option maxHeartbeats 1000000
/-! isinstance of own classes; names set to objects of flat fields. -/
namespace U
open PySem PySem.Spec PyProof.Rows L2
/-- an object's class can be told -/
structure TyC (K : PySem.W.Frag) (C : Addr) : Prop where
  ha : PySem.W.findIn K (.ref C) "__class__" = some (some (.builtin "object.__class__"))
  hn : PySem.W.specialIn K (.builtin "object.__class__") "__get__" = some (some (.builtin "getset_descriptor.__get__"))
  htk : PySem.W.takesIn K (.builtin "object.__class__") = some true
  hm : PySem.W.mroIn K C (.type "object") = some true
/-- whether the class is one of the class named x -/
structure IsC (K : PySem.W.Frag) (mg : Str → Option Value) (C : Addr) (x : Str) (b : Bool) : Prop where
  ex : ∃ C', mg x = some (.ref C') ∧ PySem.W.kitOne K (.ref C) (.ref C') = some b
section
variable {G : GG} {X : Cx} {a b c e o : Expr} {es : List Expr} {f g h : UEf} {fs gs : ULf} {Ba Bb Bc B : List Nat} {pos p p1 p2 apos : Pos} {x : Str} {k j n ci i : Nat} {F : List D → Option SV}
theorem IsC.ne {K : PySem.W.Frag} {mg : Str → Option Value} {C : Addr} {x : Str} {b : Bool} (h : IsC K mg C x b) : ∃ C', mg x = some (.ref C') := let ⟨C', e, _⟩ := h.ex; ⟨C', e⟩
/-! ### names set to what no list is within -/
end
end U
end
section
set_option Elab.async false
set_option linter.all false
set_option maxRecDepth 100000
set_option maxHeartbeats 1000000
/-! Objects that a name holds alone, changed in place. -/
namespace U
open PySem PySem.Spec PyProof.Rows L2
/-- the heap without what lies in N -/
noncomputable def delS (H : Hp) (N : Addr → Prop) : Hp := fun b => open Classical in if N b then none else H b
theorem delS_in {H : Hp} {N : Addr → Prop} {b : Addr} (h : N b) : delS H N b = none := by unfold delS; rw [if_pos h]
theorem delS_out {H : Hp} {N : Addr → Prop} {b : Addr} (h : ¬ N b) : delS H N b = H b := by unfold delS; rw [if_neg h]
def LorI (H : Hp) (b : Addr) : Prop := (∃ xs, H b = some (.lst xs)) ∨ ∃ C dx fs, H b = some (.ins C dx fs)
theorem OwnO.li {H : Hp} {a : Addr} (h : OwnO H a) : LorI H a := h.imp id fun ⟨C, dx, fs, h, _⟩ => ⟨C, dx, fs, h⟩
section
variable {G : GG} {He H H' : Hp} {S0 S S' N : Addr → Prop} {P : List (V × D)} {own : Nat → Addr → Prop} {σ : L2.St} {δ : DS}
mutual
theorem Rep.sv (hS : ∀ b, N b → S b) (hO : ∀ b, N b → LorI H b) (k : Keep (delS H N) H') : ∀ {v : V} {d : D}, Rep G H S v d → Rep G H' S v d
  | _, _, .non => .non
  | _, _, .bl b => .bl b
  | _, _, .int i => .int i
  | _, _, .str x => .str x
  | _, _, .lst (a := a) h n r => .lst (k.lst (by rw [delS_out (fun z => n (hS a z))]; exact h)) n (Reps.sv hS hO k r)
  | _, _, .frz (a := a) h r => .frz (k.at (by rw [delS_out (fun z => by rcases hO a z with ⟨xs, q⟩ | ⟨C, dx, fs, q⟩ <;> rw [q] at h <;> cases h)]; exact h) (fun _ e => by cases e)) (Reps.sv hS hO k r)
  | _, _, .tup (a := a) h r => .tup (k.at (by rw [delS_out (fun z => by rcases hO a z with ⟨xs, q⟩ | ⟨C, dx, fs, q⟩ <;> rw [q] at h <;> cases h)]; exact h) (fun _ e => by cases e)) (Reps.sv hS hO k r)
  | _, _, .obj (a := a) h l n r => .obj (k.at (by rw [delS_out (fun z => n (hS a z))]; exact h) (fun _ e => by cases e)) l n (Reps.sv hS hO k r)
  | _, _, .dct (a := a) h => .dct (k.at (by rw [delS_out (fun z => by rcases hO a z with ⟨xs, q⟩ | ⟨C, dx, fs, q⟩ <;> rw [q] at h <;> cases h)]; exact h) (fun _ e => by cases e))
  | _, _, .ex (a := a) h e => .ex (k.cd _ _ (by rw [delS_out (fun z => by rcases hO a z with ⟨xs, q⟩ | ⟨C, dx, fs, q⟩ <;> rw [q] at h <;> cases h)]; exact h)) (G.exX _ _ _ _ (fun b o hb => k.cd b o (by rw [delS_out (fun z => by rcases hO b z with ⟨xs, q⟩ | ⟨C, dx, fs, q⟩ <;> rw [q] at hb <;> cases hb)]; exact hb)) e)
theorem Reps.sv (hS : ∀ b, N b → S b) (hO : ∀ b, N b → LorI H b) (k : Keep (delS H N) H') : ∀ {vs : List V} {ds : List D}, Reps G H S vs ds → Reps G H' S vs ds
  | _, _, .nil => .nil
  | _, _, .cons h t => .cons (Rep.sv hS hO k h) (Reps.sv hS hO k t)
end
theorem OwnO.cut {a : Addr} (h : OwnO H a) (n : ¬ N a) (k : Keep (delS H N) H') : OwnO H' a := by
  rcases h with ⟨xs, h⟩ | ⟨C, dx, fs, h, q⟩
  · exact .inl ⟨xs, k.lst (by rw [delS_out n]; exact h)⟩
  · exact .inr ⟨C, dx, fs, k.at (by rw [delS_out n]; exact h) (fun _ e => by cases e), q⟩
/-- the object that a name holds alone is changed, what it holds too -/
theorem OK.mut (ok : OK G He H S0 P own σ δ) {i : Nat} {s' : SV} (k : Keep (delS H (own i)) H') (N' : Addr → Prop) (hN : ∀ b, N' b → (own i b ∨ H b = none) ∧ OwnO H' b) (hv : ValOk G H' S0 (ownN own i N') σ[i]? i s') :
    OK G He H' S0 P (ownN own i N') σ (δ.set i (some s')) := by
  have hO : ∀ b, own i b → OwnO H b := fun b z => (ok.ow i b z).2
  -- what is told of other things
  have rep : ∀ {v d}, Rep G H (Av S0 own) v d → Rep G H' (Av S0 (ownN own i N')) v d := fun {v d} r => by
    have r1 : Rep G H (fun b => Av S0 (ownN own i N') b ∨ own i b) v d := r.mono fun b z n => by
      rcases z with (z | ⟨j, z | z⟩) | z
      · exact .inl z
      · exact ((hN b z.2).1).elim (fun y => .inr ⟨i, y⟩) fun y => absurd y n
      · exact .inr ⟨j, z.2⟩
      · exact .inr ⟨i, z⟩
    exact (r1.sv (N := own i) (fun b z => .inr z) (fun b z => (hO b z).li) k).mono fun b z _ => .inl z
  have reps : ∀ {v d}, Reps G H (Av S0 own) v d → Reps G H' (Av S0 (ownN own i N')) v d := fun {v d} r => by
    have r1 : Reps G H (fun b => Av S0 (ownN own i N') b ∨ own i b) v d := r.mono fun b z n => by
      rcases z with (z | ⟨j, z | z⟩) | z
      · exact .inl z
      · exact ((hN b z.2).1).elim (fun y => .inr ⟨i, y⟩) fun y => absurd y n
      · exact .inr ⟨j, z.2⟩
      · exact .inr ⟨i, z⟩
    exact (r1.sv (N := own i) (fun b z => .inr z) (fun b z => (hO b z).li) k).mono fun b z _ => .inl z
  have kd : Keep He (delS H (own i)) := ok.kp.into (fun b e => delS_out (fun z => e (ok.ow i b z).1)) fun b o e => by
    rw [delS_out (fun z => by rcases (hO b z).li with ⟨xs, q⟩ | ⟨C, dx, fs, q⟩ <;> rw [q] at e <;> cases e)]; exact e
  refine ⟨by rw [List.length_set]; exact ok.len, kd.trans k, ok.tab, fun a z q => ?_, fun j a e z => ?_, fun j s e => ?_, fun j a e => ?_, fun j l a e1 e2 => ?_, fun p hp => rep (ok.pin p hp)⟩
  · have n : ¬ own i a := fun y => ok.ns i a y z
    have := k.free q
    rw [delS_out n] at this
    exact ok.s0 a z this
  · rcases e with e | e
    · rcases (hN a e.2).1 with y | y
      · exact ok.ns i a y z
      · exact ok.s0 a z y
    · exact ok.ns j a e.2 z
  · by_cases hj : i = j
    · subst hj
      rw [List.getElem?_set, if_pos rfl] at e
      split at e
      · cases e; exact hv
      · cases e
    · rw [List.getElem?_set_ne hj] at e
      have h := ok.val j s e
      have nij : ∀ a, own j a → ¬ own i a := fun a h1 h2 => hj (ok.inj i j a h2 h1)
      cases s with
      | sh d => obtain ⟨v, h1, h2⟩ := h; exact ⟨v, h1, rep h2⟩
      | ol ds =>
        obtain ⟨a, xs, h1, h2, h3, h4⟩ := h
        exact ⟨a, xs, h1, fun b => (ownN_ne hj b).trans (h2 b), k.lst (by rw [delS_out (nij a ((h2 a).mpr rfl))]; exact h3), reps h4⟩
      | oo c ds =>
        obtain ⟨a, dx, vs, h1, h2, h3, h4, h5, h6⟩ := h
        refine ⟨a, dx, vs, h1, (ownN_ne hj a).mpr h2, k.at (by rw [delS_out (nij a h2)]; exact h3) (fun _ e => by cases e), h4, ⟨h5.1, fun l v d a b => ?_⟩, h6⟩
        have g := h5.2 l v d a b
        cases g with
        | fl f r => exact .fl f (rep r)
        | ls o e r => exact .ls ((ownN_ne hj _).mpr o) (k.lst (by rw [delS_out (nij _ o)]; exact e)) (reps r)
      | on ds =>
        obtain ⟨a, vs, h1, h2, h3, h5, h6⟩ := h
        refine ⟨a, vs, h1, (ownN_ne hj a).mpr h2, k.lst (by rw [delS_out (nij a h2)]; exact h3), ⟨h5.1, fun l v d a b => ?_⟩, h6⟩
        have g := h5.2 l v d a b
        cases g with
        | fl f r => exact .fl f (rep r)
        | ls o e r => exact .ls ((ownN_ne hj _).mpr o) (k.lst (by rw [delS_out (nij _ o)]; exact e)) (reps r)
  · rcases e with e | e
    · refine ⟨?_, (hN a e.2).2⟩
      rcases (hN a e.2).1 with y | y
      · exact (ok.ow i a y).1
      · exact ok.kp.free y
    · have := ok.ow j a e.2
      exact ⟨this.1, this.2.cut (fun z => e.1 (ok.inj j i a e.2 z)) k⟩
  · have ne : ∀ {k}, N' a → k ≠ i → own k a → False := fun {k} h1 hk h2 => by
      rcases (hN a h1).1 with y | y
      · exact hk (ok.inj k i a h2 y)
      · exact (ok.ow k a h2).2.some y
    rcases e1 with e1 | e1 <;> rcases e2 with e2 | e2
    · rw [e1.1, e2.1]
    · exact (ne e1.2 e2.1 e2.2).elim
    · exact (ne e2.2 e1.1 e1.2).elim
    · exact ok.inj j l a e1.2 e2.2
/-- a list of the object's own is written -/
theorem FldsOk.wr {O : Addr → Prop} {vs : List V} {ds : List D} {j : Nat} {l : Addr} {us zs : List V} {ys : List D} (hS : S l) (hO : O l) (hl : H l = some (.lst us)) (hj : vs[j]? = some (.ref l)) (one : OneRef vs) (r : Reps G H S zs ys) (h : FldsOk G H S O vs ds) :
    FldsOk G (upd H l (HO.lst zs)) S O vs (ds.set j (.lst ys)) := by
  refine ⟨by rw [List.length_set]; exact h.1, fun m v d a b => ?_⟩
  by_cases hm : j = m
  · subst hm
    rw [List.getElem?_set, if_pos rfl] at b
    split at b
    · cases b
      rw [hj] at a; cases a
      exact .ls hO upd_same (r.wr hS hl)
    · cases b
  · rw [List.getElem?_set_ne hm] at b
    have g := h.2 m v d a b
    cases g with
    | fl f q => exact .fl f (q.wr hS hl)
    | @ls l' us' ds' o e q => exact .ls o (by rw [upd_ne (fun z : l' = l => hm (one j m l hj (by rw [a, z])))]; exact e) (q.wr hS hl)
theorem OwnO.wr {a l : Addr} {zs us : List V} (hl : H l = Option.some (HO.lst us)) (h : OwnO H a) : OwnO (upd H l (HO.lst zs)) a := by
  by_cases ha : a = l
  · subst ha; exact .inl ⟨zs, upd_same⟩
  · rcases h with ⟨xs, h⟩ | ⟨C, dx, fs, h, q⟩
    · exact .inl ⟨xs, by rw [upd_ne ha]; exact h⟩
    · exact .inr ⟨C, dx, fs, by rw [upd_ne ha]; exact h, q⟩
/-- the same, by the state -/
theorem OK.fwr (ok : OK G He H S0 P own σ δ) {i j c : Nat} {ds ys : List D} {l a dx : Addr} {us zs vs : List V} (h1 : σ[i]? = some (some (.ref a))) (h2 : own i a) (h3 : H a = some (.ins (G.cls c) dx ((G.flds c).zip vs))) (h4 : vs.length = (G.flds c).length) (h5 : FldsOk G H (Av S0 own) (own i) vs ds) (h6 : OneRef vs)
    (hj : vs[j]? = some (.ref l)) (hl : own i l) (hl2 : H l = some (.lst us)) (r : Reps G H (Av S0 own) zs ys) : ∃ own', OK G He (upd H l (HO.lst zs)) S0 P own' σ (δ.set i (some (.oo c (ds.set j (.lst ys))))) := by
  have hS : Av S0 own l := .inr ⟨i, hl⟩
  have eqo : ∀ k b, ownN own i (own i) k b ↔ own k b := fun k b => by
    by_cases hk : i = k
    · subst hk; exact ownN_same b
    · exact ownN_ne hk b
  have av : ∀ b, Av S0 (ownN own i (own i)) b → Av S0 own b := fun b z => z.imp id fun ⟨k, z⟩ => ⟨k, (eqo k b).mp z⟩
  refine ⟨_, ok.mut (H' := upd H l (HO.lst zs)) (fun b o e => ?_) (own i) (fun b z => ⟨.inl z, ((ok.ow i b z).2).wr hl2⟩) ⟨a, dx, vs, h1, (eqo i a).mpr h2, ?_, h4, (h5.wr hS hl hl2 hj h6 r).mono (fun b z _ => av b z) fun b z => (eqo i b).mpr z, h6⟩⟩
  · have n : ¬ own i b := fun z => by rw [delS_in z] at e; cases e
    rw [delS_out n] at e
    exact .inl (by rw [upd_ne (fun z : b = l => n (by rw [z]; exact hl))]; exact e)
  · rw [upd_ne (fun z : a = l => by rw [z, hl2] at h3; cases h3)]; exact h3
end
/-! ### statements that leave the names as they are -/
structure UMt (G : GG) (X : Cx) (st : Stmt) (u : DS → Option DS) : Prop where
  ps : PS X st (fun D' σ H => ∃ He S0 P own δ δ', OK G He H S0 P own σ δ ∧ u δ = some δ' ∧ ∀ H' own', OK G He H' S0 P own' σ δ' → D'.nx σ H')
structure UMs (G : GG) (X : Cx) (sts : List Stmt) (u : DS → Option DS) : Prop where
  ps : PSs X sts (fun D' σ H => ∃ He S0 P own δ δ', OK G He H S0 P own σ δ ∧ u δ = some δ' ∧ ∀ H' own', OK G He H' S0 P own' σ δ' → D'.nx σ H')
/-- the fields of the object that the i-th name holds alone -/
def oo1 (c : Nat) (δ : DS) (i : Nat) : Option (List D) := match δ[i]? with | some (some (.oo c' ds)) => if c' = c then some ds else none | _ => none
theorem oo1_of {c : Nat} {δ : DS} {i : Nat} {ds : List D} (h : oo1 c δ i = some ds) : δ[i]? = some (some (.oo c ds)) := by
  unfold oo1 at h
  split at h
  · rename_i c' xs e
    split at h
    · rename_i hc; cases h; rw [e, hc]
    · cases h
  · cases h
def uFApp (c i j : Nat) (f : UEf) : DS → Option DS := fun δ => match oo1 c δ i, f δ with
  | some ds, some d => match ds[j]? with
    | some (.lst xs) => if imm d && decide (xs.length < 1000000) then some (δ.set i (some (.oo c (ds.set j (.lst (xs ++ [d])))))) else none
    | _ => none
  | _, _ => none
section
variable {G : GG} {X : Cx} {a b c e o : Expr} {es : List Expr} {f g h : UEf} {fs gs : ULf} {Ba Bb Bc B : List Nat} {pos p px apos cpos fpos spos : Pos} {x fn : Str} {k j n ci i : Nat} {F : List D → Option SV}
theorem um_fapp (hF : Fd1 X.K G ci j fn) (he : UE G X e f B) (hN : X.N[i]? = some x := by rfl) (hv : Vis X.env.scope x := by first | exact Or.inl rfl | exact Or.inr (Or.inl rfl) | exact Or.inr (Or.inr rfl)) (hd : (x == ("__debug__" : Str)) = false := by decide)
    (hcd : (x == ("__classdict__" : Str)) = false := by decide) (hb : attributeBase (.Name x px) fn X.env (eval (.Name x px) X.env) = eval (.Name x px) X.env := by rfl) (hbase : attributeBase (.Attribute (.Name x px) fn fpos) "append" X.env (eval (.Attribute (.Name x px) fn fpos) X.env) = eval (.Attribute (.Name x px) fn fpos) X.env := by rfl)
    (hfew : ((backTo cpos (starEach [e] X.env)).all (fun x => !x.1) && (backToKw cpos (keywordEach [] X.env)).all (fun x => x.1.isSome)
      && decide (([e] : List Expr).length + ([] : List Keyword).length + (if ([] : List Keyword).isEmpty then 0 else 1) < 30)) = true := by rfl)
    (hline : (apos.endLine == cpos.line) = true := by rfl) (hst : starEach [e] X.env = (false, eval e X.env) :: starEach [] X.env := by rfl) (hpl : (backTo cpos (starEach [] X.env)).any (·.1) = false := by rfl)
    (hs : swapsWith (.Call (.Attribute (.Attribute (.Name x px) fn fpos) "append" apos) [e] [] cpos) none pos.line X.env = pure false := by rfl) :
    UMt G X (.Expr (.Call (.Attribute (.Attribute (.Name x px) fn fpos) "append" apos) [e] [] cpos) pos) (uFApp ci i j f) :=
  ⟨PS.weak (ps_expr (pe_bm PySem.F.plainAttrs_list PySem.F.slot_list_append PySem.F.type_list_append mt_append (pe_fld (pe_var hN hv hd hcd) hb) (pa_cons he.pe pa_nil hst) hbase hfew hline hst hpl) hs) fun D' σ H ⟨He, S0, P, own, δ, δ', ok, hf, k⟩ => by
    unfold uFApp at hf
    split at hf
    · rename_i ds d e1 e2
      split at hf
      · rename_i xs e3
        split at hf
        · rename_i hz
          cases hf
          rw [Bool.and_eq_true, decide_eq_true_eq] at hz
          obtain ⟨q, dx, vs, h1, h2, h3, h4, h5, h6⟩ := ok.val i _ (oo1_of e1)
          obtain ⟨v, hvj⟩ : ∃ v, vs[j]? = some v := ⟨_, List.getElem?_eq_getElem (by rw [h5.1]; exact (List.getElem?_eq_some_iff.mp e3).1)⟩
          have g := h5.2 j v _ hvj e3
          cases g with
          | fl z _ => cases z
          | @ls l us _ o el r =>
            refine ⟨_, h1, q, _, dx, _, .ref l, rfl, h3, hF.cl, hF.n, by rw [hF.at_ vs h4, hvj], .inl ⟨rfl, _, SqL.of el⟩, He, S0, P, own, δ, d, ok, e2, fun w H1 k1 r1 => ?_⟩
            have ok1 := ok.keep k1
            refine ⟨l, us, w, rfl, rfl, k1.lst el, by rw [r.length]; exact small_lt (by unfold small; exact decide_eq_true (by omega)), ?_⟩
            obtain ⟨own', ok'⟩ := ok1.fwr (zs := us ++ [w]) (ys := xs ++ [d]) h1 h2 (k1.at h3 (fun _ e => by cases e)) h4 (h5.keep k1) h6 hvj o (k1.lst el) ((r.keep k1).snoc (r1.imm hz.1))
            exact k _ own' ok'
        · cases hf
      · cases hf
    · cases hf⟩
end
end U
end
section
set_option Elab.async false
set_option linter.all false
set_option maxRecDepth 100000
set_option maxHeartbeats 1000000
/-! Fields set, methods that change their object. -/
namespace U
open PySem PySem.Spec PyProof.Rows L2
def uFSet (c i j : Nat) (f : UEf) : DS → Option DS := fun δ => match oo1 c δ i, f δ with
  | some ds, some d => match ds[j]? with
    | some d0 => if d.flat && d0.flat then some (δ.set i (some (.oo c (ds.set j d)))) else none
    | none => none
  | _, _ => none
def uFAug (c i j : Nat) (g f : UEf) : DS → Option DS := fun δ => match oo1 c δ i, g δ, f δ with
  | some ds, some (.int k), some (.int z) => match ds[j]? with
    | some (.lst xs) => if 0 ≤ k then match xs[k.toNat]? with
      | some (.int y) => some (δ.set i (some (.oo c (ds.set j (.lst (xs.set k.toNat (.int (y + z))))))))
      | _ => none else none
    | _ => none
  | _, _, _ => none
def uMSkip (t : UTf) : DS → Option DS := fun δ => match t δ with | some false => some δ | _ => none
def uMSeq (u v : DS → Option DS) : DS → Option DS := fun δ => (u δ).bind v
/-- what a method makes of the fields and the arguments: the fields behind it, what it hands back -/
abbrev MF := List D → List D → Option (List D × D)
def uMCall (c i : Nat) (F : MF) (fs : ULf) : DS → Option DS := fun δ => match oo1 c δ i, fs δ with
  | some ds, some xs => if flats xs then match F ds xs with
    | some (ds', _) => some (δ.set i (some (.oo c ds')))
    | none => none else none
  | _, _ => none
/-- a method's promise: the object is held alone by whom it is asked -/
def spM (G : GG) (c n : Nat) (F : MF) : Sp := fun vs H Q _ => ∃ (S0 N : Addr → Prop) (a dx : Addr) (ws us : List V) (ds xs ds' : List D) (d : D), vs = .ref a :: us ∧ us.length = n ∧ (∀ b, S0 b → H b ≠ none) ∧ (∀ b, N b → ¬ S0 b ∧ OwnO H b) ∧ TabOk G H ∧ N a ∧
  H a = some (.ins (G.cls c) dx ((G.flds c).zip ws)) ∧ ws.length = (G.flds c).length ∧ FldsOk G H (fun b => S0 b ∨ N b) N ws ds ∧ OneRef ws ∧ Reps G H (fun b => S0 b ∨ N b) us xs ∧ F ds xs = some (ds', d) ∧ d.flat = true ∧
  ∀ (N' : Addr → Prop) dx' ws' H' v, Keep (delS H N) H' → (∀ b, N' b → (N b ∨ H b = none) ∧ OwnO H' b) → N' a → H' a = some (.ins (G.cls c) dx' ((G.flds c).zip ws')) → ws'.length = (G.flds c).length → FldsOk G H' (fun b => S0 b ∨ N' b) N' ws' ds' → OneRef ws' → Rep G H' S0 v d → Q v H'
structure MeM (P : Program) (w : World) (K : PySem.W.Frag) (mg : Str → Option Value) (base : Heap) (G : GG) (c : Nat) (m : Str) (k n : Nat) (F : MF) : Prop where
  cl : Cls K (G.cls c)
  nf : m ∉ G.flds c
  ex : ∃ f fd ps, Meth K (G.cls c) m f ∧ FnOk P w K mg base CX0 k f fd ps (spM G c n F) ∧ Binds K fd ps []
section
variable {G : GG} {X : Cx} {a b c e o : Expr} {es : List Expr} {f g h : UEf} {fs gs : ULf} {Ba Bb Bc B : List Nat} {pos p px apos cpos fpos spos tpos : Pos} {x fn : Str} {k j n ci i : Nat} {F : MF} {u v : DS → Option DS} {st : Stmt} {sts : List Stmt} {t : UTf}
theorem um_cons (h1 : UMt G X st u) (h2 : UMs G X sts v) : UMs G X (st :: sts) (uMSeq u v) := ⟨PSs.weak (pss_cons h1.ps h2.ps) fun D' σ H ⟨He, S0, P, own, δ, δ', ok, hf, k⟩ => by
  obtain ⟨δ1, e1, e2⟩ := Option.bind_eq_some_iff.mp hf
  exact ⟨He, S0, P, own, δ, δ1, ok, e1, fun H1 own1 ok1 => ⟨He, S0, P, own1, δ1, δ', ok1, e2, k⟩⟩⟩
theorem um_one (h1 : UMt G X st u) : UMs G X [st] u := ⟨pss_one h1.ps⟩
theorem um_skip {rst : Stmt} (hc : UT G X c t) : UMt G X (.If c [rst] [] pos) (uMSkip t) := ⟨PS.weak (ps_if hc.pt (pss_one ps_never) pss_nil) fun D' σ H ⟨He, S0, P, own, δ, δ', ok, hf, k⟩ => by
  unfold uMSkip at hf
  split at hf
  · rename_i e
    cases hf
    exact ⟨He, S0, P, own, δ, _, ok, e, fun H1 k1 => iteF (k H1 own (ok.keep k1))⟩
  · cases hf⟩
theorem um_fset (hF : Fd1 X.K G ci j fn) (he : UE G X e f B) (hN : X.N[i]? = some x := by rfl) (hv : Vis X.env.scope x := by first | exact Or.inl rfl | exact Or.inr (Or.inl rfl) | exact Or.inr (Or.inr rfl)) (hd : (x == ("__debug__" : Str)) = false := by decide)
    (hcd : (x == ("__classdict__" : Str)) = false := by decide) (hs : swapsWith e (some (.Attribute (.Name x px) fn fpos)) pos.line X.env = pure false := by rfl) (hsm : (G.flds ci).length < 1000) :
    UMt G X (.Assign [.Attribute (.Name x px) fn fpos] e pos) (uFSet ci i j f) :=
  ⟨PS.weak (ps_fld (pe_var hN hv hd hcd) he.pe hs) fun D' σ H ⟨He, S0, P, own, δ, δ', ok, hf, k⟩ => by
    unfold uFSet at hf
    split at hf
    · rename_i ds d e1 e2
      split at hf
      · rename_i d0 e3
        split at hf
        · rename_i hz
          cases hf
          rw [Bool.and_eq_true] at hz
          refine ⟨He, S0, P, own, δ, d, ok, e2, fun y H1 k1 r1 => ?_⟩
          have ok1 := ok.keep k1
          obtain ⟨q, dx, vs, h1, h2, h3, h4, h5, h6⟩ := ok1.val i _ (oo1_of e1)
          have hjl : j < vs.length := by rw [h5.1]; exact (List.getElem?_eq_some_iff.mp e3).1
          refine ⟨_, h1, q, _, dx, _, rfl, h3, hF.cl, hF.n, by rw [List.length_zip]; omega, ?_⟩
          rw [hF.put_ vs y h4]
          have hwf : ∀ l, y ≠ V.ref l := fun l z => by
            rw [z] at r1
            cases r1 <;> cases hz.1
          have ry : Rep G (upd H1 q (.ins (G.cls ci) dx ((G.flds ci).zip (vs.set j y)))) (Av S0 own) y d := r1.flat hz.1 _ _
          have eqo : ∀ m b, ownN own i (own i) m b ↔ own m b := fun m b => by
            by_cases hk : i = m
            · subst hk; exact ownN_same b
            · exact ownN_ne hk b
          have av : ∀ b, Av S0 (ownN own i (own i)) b → Av S0 own b := fun b z => z.imp id fun ⟨m, z⟩ => ⟨m, (eqo m b).mp z⟩
          have kd : Keep (delS H1 (own i)) (upd H1 q (.ins (G.cls ci) dx ((G.flds ci).zip (vs.set j y)))) := fun b o e => by
            have n : ¬ own i b := fun z => by rw [delS_in z] at e; cases e
            rw [delS_out n] at e
            exact .inl (by rw [upd_ne (fun z : b = q => n (by rw [z]; exact h2))]; exact e)
          have oneR : OneRef (vs.set j y) := fun m l r a1 a2 => by
            have c1 : vs[m]? = some (V.ref r) := by
              by_cases hm : j = m
              · subst hm; rw [List.getElem?_set_self hjl] at a1; cases a1; exact absurd rfl (hwf r)
              · rwa [List.getElem?_set_ne hm] at a1
            have c2 : vs[l]? = some (V.ref r) := by
              by_cases hm : j = l
              · subst hm; rw [List.getElem?_set_self hjl] at a2; cases a2; exact absurd rfl (hwf r)
              · rwa [List.getElem?_set_ne hm] at a2
            exact h6 m l r c1 c2
          have lk : ∀ {v d}, Rep G H1 (Av S0 own) v d → Rep G (upd H1 q (.ins (G.cls ci) dx ((G.flds ci).zip (vs.set j y)))) (Av S0 own) v d := fun {v d} r => r.sv (N := own i) (fun b z => .inr ⟨i, z⟩) (fun b z => (ok1.ow i b z).2.li) kd
          have lks : ∀ {v d}, Reps G H1 (Av S0 own) v d → Reps G (upd H1 q (.ins (G.cls ci) dx ((G.flds ci).zip (vs.set j y)))) (Av S0 own) v d := fun {v d} r => r.sv (N := own i) (fun b z => .inr ⟨i, z⟩) (fun b z => (ok1.ow i b z).2.li) kd
          refine k _ (ownN own i (own i)) (ok1.mut kd (own i) (fun b z => ⟨.inl z, ?_⟩) ⟨q, dx, vs.set j y, h1, (eqo i q).mpr h2, upd_same, by rw [List.length_set]; exact h4, ⟨by rw [List.length_set, List.length_set]; exact h5.1, fun m v d' a1 a2 => ?_⟩, oneR⟩)
          · by_cases hb : b = q
            · subst hb
              have o1 := (ok1.ow i b z).2
              rcases o1 with ⟨zs, q1⟩ | ⟨C', dx', fs', q1, x', l', hm⟩
              · rw [h3] at q1; cases q1
              · rw [h3] at q1; cases q1
                refine .inr ⟨_, dx, _, upd_same, x', l', ?_⟩
                obtain ⟨m, hmm⟩ := List.mem_iff_getElem?.mp hm
                rw [List.getElem?_zip_eq_some] at hmm
                have hmj : j ≠ m := fun z2 => by
                  subst z2
                  have e3' := h5.2 j _ _ hmm.2 e3
                  cases e3' with
                  | fl q2 r2 => cases r2 <;> cases q2
                  | ls _ _ _ => cases hz.2
                refine List.mem_iff_getElem?.mpr ⟨m, ?_⟩
                rw [List.getElem?_zip_eq_some]
                exact ⟨hmm.1, by rw [List.getElem?_set_ne hmj]; exact hmm.2⟩
            · rcases (ok1.ow i b z).2 with ⟨zs, q1⟩ | ⟨C', dx', fs', q1, q2⟩
              · exact .inl ⟨zs, by rw [upd_ne hb]; exact q1⟩
              · exact .inr ⟨C', dx', fs', by rw [upd_ne hb]; exact q1, q2⟩
          · by_cases hm : j = m
            · subst hm
              rw [List.getElem?_set_self hjl] at a1
              rw [List.getElem?_set_self (by rw [← h5.1]; exact hjl)] at a2
              cases a1; cases a2
              exact .fl hz.1 (ry.mono fun b z _ => av b z)
            · rw [List.getElem?_set_ne hm] at a1 a2
              have g := h5.2 m v d' a1 a2
              cases g with
              | fl q1 r => exact .fl q1 ((lk r).mono fun b z _ => av b z)
              | @ls l' us' ds1 o el r => exact .ls ((eqo i _).mpr o) (by rw [upd_ne (fun z : l' = q => by rw [z, h3] at el; cases el)]; exact el) ((lks r).mono fun b z _ => av b z)
        · cases hf
      · cases hf
    · cases hf⟩
theorem um_faug (hF : Fd1 X.K G ci j fn) (hg : UE G X b g Bb) (he : UE G X e f B) (hN : X.N[i]? = some x := by rfl) (hv : Vis X.env.scope x := by first | exact Or.inl rfl | exact Or.inr (Or.inl rfl) | exact Or.inr (Or.inr rfl)) (hd : (x == ("__debug__" : Str)) = false := by decide)
    (hcd : (x == ("__classdict__" : Str)) = false := by decide) (hb : attributeBase (.Name x px) fn X.env (eval (.Name x px) X.env) = eval (.Name x px) X.env := by rfl) (ha : ∀ ov iv new, augStore b ov iv new = (do holding [new, ov, iv] (setItem ov iv new); release [new, ov, iv] []; pure .next) := by intros; rfl) :
    UMt G X (.AugAssign (.Subscript (.Attribute (.Name x px) fn fpos) b tpos) .Add e pos) (uFAug ci i j g f) :=
  ⟨PS.weak (ps_augS (pe_fld (pe_var hN hv hd hcd) hb) hg.pe get_lst he.pe ip_add set_list ha) fun D' σ H ⟨He, S0, P, own, δ, δ', ok, hf, k⟩ => by
    unfold uFAug at hf
    split at hf
    · rename_i ds kk z e1 e2 e4
      split at hf
      · rename_i xs e3
        split at hf
        · rename_i h0
          split at hf
          · rename_i y e5
            cases hf
            obtain ⟨q, dx, vs, h1, h2, h3, h4, h5, h6⟩ := ok.val i _ (oo1_of e1)
            obtain ⟨v, hvj⟩ : ∃ v, vs[j]? = some v := ⟨_, List.getElem?_eq_getElem (by rw [h5.1]; exact (List.getElem?_eq_some_iff.mp e3).1)⟩
            have g := h5.2 j v _ hvj e3
            cases g with
            | fl z _ => cases z
            | @ls l us _ o el r =>
              refine ⟨_, h1, q, _, dx, _, .ref l, rfl, h3, hF.cl, hF.n, by rw [hF.at_ vs h4, hvj], He, S0, P, own, δ, _, ok, e2, fun w H1 k1 r1 => ?_⟩
              cases r1
              obtain ⟨w1, hw1, hw2⟩ := r.get e5
              cases hw2
              refine ⟨l, us, kk, _, rfl, rfl, k1.lst el, h0, hw1, He, S0, P, own, δ, _, ok.keep k1, e4, fun u2 H2 k2 r2 => ?_⟩
              cases r2
              have ok2 := (ok.keep k1).keep k2
              have k12 := k1.trans k2
              have hlt : kk.toNat < us.length := (List.getElem?_eq_some_iff.mp hw1).1
              obtain ⟨own', ok'⟩ := ok2.fwr (zs := us.set kk.toNat (.int (y + z))) (ys := xs.set kk.toNat (.int (y + z))) h1 h2 (k12.at h3 (fun _ e => by cases e)) h4 (h5.keep k12) h6 hvj o (k12.lst el) ((r.keep k12).set _ (.int _))
              refine ⟨_, _, rfl, rfl, l, us, kk, kk.toNat, rfl, rfl, k12.lst el, ?_, k _ own' ok'⟩
              unfold ixN
              rw [if_pos h0, if_pos (by omega)]
          · cases hf
        · cases hf
      · cases hf
    · cases hf⟩
/-- the object that the i-th name holds alone is asked -/
theorem mcall_core {He H : Hp} {S0 : Addr → Prop} {P : List (V × D)} {own : Nat → Addr → Prop} {σ : L2.St} {δ : DS} {ds xs ds' : List D} {d : D} {q : Addr} {us : List V} {S1 : Addr → Prop} {E : XK} {Q : VK} (ok : OK G He H S0 P own σ δ) (e1 : δ[i]? = some (some (.oo ci ds))) (hq : σ[i]? = some (some (.ref q)))
    (hn : us.length = n) (rx : Reps G H S1 us xs) (fx : flats xs = true) (hF : F ds xs = some (ds', d)) (fd : d.flat = true) (k : ∀ v H' own', OK G He H' S0 P own' σ (δ.set i (some (.oo ci ds'))) → Rep G H' S0 v d → Q v H') : spM G ci n F (.ref q :: us) H Q E := by
  obtain ⟨q', dx, vs, h1, h2, h3, h4, h5, h6⟩ := ok.val i _ e1
  rw [hq] at h1
  obtain rfl : q = q' := by injection h1 with h1; injection h1 with h1; injection h1
  refine ⟨fun b => S0 b ∨ ∃ j, j ≠ i ∧ own j b, own i, q, dx, vs, us, ds, xs, ds', d, rfl, hn, fun b z => ?_, fun b z => ⟨fun y => ?_, (ok.ow i b z).2⟩, ok.tab.keep ok.kp, h2, h3, h4, h5.mono (fun b z _ => ?_) (fun b z => z), h6, rx.flt fx _ _, hF, fd, fun N' dx' ws' H' v kk hN ha e hl r o rv => ?_⟩
  · rcases z with z | ⟨j, _, z⟩
    · exact ok.s0 b z
    · exact (ok.ow j b z).2.some
  · rcases y with y | ⟨j, hj, y⟩
    · exact ok.ns i b z y
    · exact hj (ok.inj j i b y z)
  · rcases z with (z | ⟨j, _, z⟩) | z
    · exact .inl z
    · exact .inr ⟨j, z⟩
    · exact .inr ⟨i, z⟩
  · refine k v H' _ (ok.mut kk N' hN ⟨q, dx', ws', hq, (ownN_same q).mpr ha, e, hl, r.mono (fun b z _ => ?_) (fun b z => (ownN_same b).mpr z), o⟩) (rv.flat fd _ _)
    rcases z with z | ⟨j, z | z⟩
    · exact .inl (.inl z)
    · exact .inr z.2
    · exact .inl (.inr ⟨j, z⟩)
theorem um_mcall {m : Str} {pl : Sem Bool} (hF : MeM X.prog X.w X.K X.mg X.base G ci m j n F) (hr : Room k X.A) (hj : j ≤ k) (hfl : ∀ ds xs ds' d, F ds xs = some (ds', d) → d.flat = true) (ha : UA G X (e :: es) fs B) (hl : HasLen fs n) (hN : X.N[i]? = some x := by rfl) (hv : Vis X.env.scope x := by first | exact Or.inl rfl | exact Or.inr (Or.inl rfl) | exact Or.inr (Or.inr rfl)) (hd : (x == ("__debug__" : Str)) = false := by decide)
    (hcd : (x == ("__classdict__" : Str)) = false := by decide)
    (hst : starEach (e :: es) X.env = (false, eval e X.env) :: starEach es X.env := by rfl) (hpl : (backTo pos (starEach es X.env)).any (·.1) = false := by rfl)
    (ht : eval (.Call (.Attribute (.Name x px) m apos) (e :: es) [] pos) X.env = (do
      let ov ← eval (.Name x px) X.env
      standAt apos.atName
      let (f, first) ← holding [ov] (getMethod ov m pl)
      callWith pos f first (backTo pos (starEach (e :: es) X.env)) (backToKw pos (keywordEach [] X.env))) := by rfl) (hs : swapsWith (.Call (.Attribute (.Name x px) m apos) (e :: es) [] pos) none spos.line X.env = pure false := by rfl) :
    UMt G X (.Expr (.Call (.Attribute (.Name x px) m apos) (e :: es) [] pos) spos) (uMCall ci i F fs) := by
  obtain ⟨fa, fd, ps, M, FF, hb⟩ := hF.ex
  refine ⟨PS.weak (ps_expr (pe_meth (CX := CX0) (E := E0) (dvs := []) (pe_var hN hv hd hcd) hF.cl M FF (hr.mono hj) hb .nil pass0 ha.pa hst hpl ht) hs) fun D' σ H ⟨He, S0, P, own, δ, δ', ok, hf, k⟩ => ?_⟩
  unfold uMCall at hf
  split at hf
  · rename_i ds xs e1 e2
    split at hf
    · rename_i hx
      split at hf
      · rename_i ds' d hFr
        cases hf
        obtain ⟨q, dx, vs, h1, h2, h3, h4, h5, h6⟩ := ok.val i _ (oo1_of e1)
        refine ⟨_, h1, q, dx, _, rfl, h3, lookup_none hF.nf, He, S0, P, own, δ, xs, ok, e2, fun us H1 k1 r1 => ?_⟩
        show spM G ci n F (V.ref q :: (us ++ [])) H1 _ E0
        rw [List.append_nil]
        exact mcall_core (ok.keep k1) (oo1_of e1) h1 (by rw [r1.length]; exact hl δ xs e2) r1 hx hFr (hfl _ _ _ _ hFr) fun v H' own' ok' rv => k H' own' ok'
      · cases hf
    · cases hf
  · cases hf
end
end U
end
section
set_option Elab.async false
set_option linter.all false
set_option maxRecDepth 100000
set_option maxHeartbeats 1000000
/-! Methods that change their object: from their bodies. New objects that a name holds alone. -/
namespace U
open PySem PySem.Spec PyProof.Rows L2
def startM (n c : Nat) (ds xs : List D) : DS := some (.oo c ds) :: startD (n - 1) xs
def runM (c n : Nat) (u : DS → Option DS) (g : UEf) : MF := fun ds xs => match u (startM n c ds xs) with
  | some δ => match oo1 c δ 0, g δ with
    | some ds', some d => if d.flat then some (ds', d) else none
    | _, _ => none
  | none => none
theorem runM_flat {c n : Nat} {u : DS → Option DS} {g : UEf} : ∀ ds xs ds' d, runM c n u g ds xs = some (ds', d) → d.flat = true := fun ds xs ds' d h => by
  unfold runM at h
  split at h
  · split at h
    · split at h
      · rename_i hd; cases h; exact hd
      · cases h
    · cases h
  · cases h
structure UMr (G : GG) (X : Cx) (sts : List Stmt) (u : DS → Option DS) (g : UEf) : Prop where
  ps : PSs X sts (fun D' σ H => ∃ He S0 P own δ δ' d, OK G He H S0 P own σ δ ∧ u δ = some δ' ∧ g δ' = some d ∧ d.flat = true ∧ ∀ H' own' v, OK G He H' S0 P own' σ δ' → Rep G H' S0 v d → D'.rt v H' ∧ (v = .non → D'.nx σ H'))
section
variable {G : GG} {X : Cx} {a b c e o : Expr} {es : List Expr} {f g h : UEf} {fs gs : ULf} {Ba Bb Bc B : List Nat} {pos p px apos cpos fpos spos tpos : Pos} {x fn : Str} {k j n ci i : Nat} {F : MF} {u v : DS → Option DS} {st : Stmt} {sts : List Stmt} {t : UTf}
theorem umr_ret (he : UE G X e g B) : UMr G X [.Return (some e) pos] some g := ⟨PSs.weak (pss_one (ps_ret he.pe)) fun D' σ H ⟨He, S0, P, own, δ, δ', d, ok, hf, hg, hd, k⟩ => by
  cases hf
  exact ⟨He, S0, P, own, δ, d, ok, hg, fun v H1 k1 r1 => (k H1 own v (ok.keep k1) (r1.flat hd _ _)).1⟩⟩
theorem umr_end (h : UMs G X sts u) : UMr G X sts u (uC .non) := ⟨PSs.weak h.ps fun D' σ H ⟨He, S0, P, own, δ, δ', d, ok, hf, hg, hd, k⟩ => by
  cases hg
  exact ⟨He, S0, P, own, δ, δ', ok, hf, fun H1 own1 ok1 => (k H1 own1 .non ok1 .non).2 rfl⟩⟩
theorem umr_cons (h1 : UMt G X st u) (h2 : UMr G X sts v g) : UMr G X (st :: sts) (uMSeq u v) g := ⟨PSs.weak (pss_cons h1.ps h2.ps) fun D' σ H ⟨He, S0, P, own, δ, δ', d, ok, hf, hg, hd, k⟩ => by
  obtain ⟨δ1, e1, e2⟩ := Option.bind_eq_some_iff.mp hf
  exact ⟨He, S0, P, own, δ, δ1, ok, e1, fun H1 own1 ok1 => ⟨He, S0, P, own1, δ1, δ', d, ok1, e2, hg, hd, k⟩⟩⟩
end
theorem startM_ok {G : GG} {H : Hp} {S0 N : Addr → Prop} {Nm : List Str} {a dx : Addr} {ws us : List V} {ds xs : List D} {c : Nat} (hs : ∀ b, S0 b → H b ≠ none) (hN : ∀ b, N b → ¬ S0 b ∧ OwnO H b) (ht : TabOk G H) (ha : N a)
    (e : H a = some (.ins (G.cls c) dx ((G.flds c).zip ws))) (hl : ws.length = (G.flds c).length) (r : FldsOk G H (fun b => S0 b ∨ N b) N ws ds) (o : OneRef ws) (rx : Reps G H (fun b => S0 b ∨ N b) us xs) (hn : us.length < Nm.length) :
    OK G (delS H N) H S0 [] (fun i b => i = 0 ∧ N b) (L2.start Nm (.ref a :: us)) (startM Nm.length c ds xs) := by
  have av : ∀ b, Av S0 (fun i b => i = 0 ∧ N b) b → S0 b ∨ N b := fun b z => z.imp id fun ⟨_, z⟩ => z.2
  have hx := rx.length
  refine ⟨by unfold L2.start startM startD; simp; omega, fun b ob q => ?_, ht.sub (fun b g ps q => by rw [delS_out (fun z => by rcases (hN b z).2 with ⟨xs, y⟩ | ⟨C, dx, fs, y, _⟩ <;> rw [y] at q <;> cases q)]; exact q) (fun b o u q => by rw [delS_out (fun z => by rcases (hN b z).2 with ⟨xs, y⟩ | ⟨C, dx, fs, y, _⟩ <;> rw [y] at q <;> cases q)]; exact q), hs, fun i b z => by rw [← z.1] at *; exact (hN b z.2).1, fun i s q => ?_, fun i b z => ⟨delS_in z.2, (hN b z.2).2⟩, fun i j b z y => by rw [z.1, y.1], fun p hp => by cases hp⟩
  · by_cases z : N b
    · rw [delS_in z] at q; cases q
    · rw [delS_out z] at q; exact .inl q
  · cases i with
    | zero =>
      cases q
      exact ⟨a, dx, ws, rfl, ⟨rfl, ha⟩, e, hl, r.mono (fun b z _ => av b z) (fun b z => ⟨rfl, z⟩), o⟩
    | succ i =>
      unfold startM at q
      rw [List.getElem?_cons_succ] at q
      unfold startD at q
      rw [List.getElem?_append] at q
      split at q
      · rename_i hi
        rw [List.getElem?_map] at q
        cases qd : xs[i]? with
        | none => rw [qd] at q; cases q
        | some d =>
          rw [qd] at q
          cases q
          obtain ⟨v, h1, h2⟩ := rx.get qd
          refine ⟨v, ?_, h2.mono fun b z _ => av b z⟩
          have hlt : i < us.length := (List.getElem?_eq_some_iff.mp h1).1
          unfold L2.start
          rw [List.map_cons, List.cons_append, List.getElem?_cons_succ, List.getElem?_append_left (by rw [List.length_map]; exact hlt), List.getElem?_map, h1]; rfl
      · rw [List.getElem?_replicate] at q
        split at q <;> cases q
theorem fn_m {P : Program} {w : World} {G : GG} {mg : Str → Option Value} {base : Heap} {x qual : Str} {st : Stmt} {f : Addr} {fd : FuncData} {N ps : List Str} {k n c : Nat} {u : DS → Option DS} {g : UEf} (FF : Fun G.K x qual st f fd) (S : FnScope N ps (defScope st)) (hn : ps.length = n + 1) (hN : n < N.length)
    (body : ∀ (cdv : Value) (A : Around) (outer : List Env) (s : Shared) (H : Hp) (E : XK), Room k (A.deeper (PyProof.Rows.envOfC qual (defScope st) s.heap.objs.size f cdv)) →
      UMr G (cxOf CX0 P w G.K mg base N qual (defScope st) f cdv A outer s H E).nox (defBody st) u g) : FnOk P w G.K mg base CX0 (k + 1) f fd ps (spM G c n (runM c N.length u g)) := by
  refine FF.ok S (fun vs H Q E ⟨S0, M, a, dx, ws, us, ds, xs, ds', d, ev, hl, _⟩ => by rw [ev, List.length_cons, hl, hn]) fun cdv A outer s H vs Q E hr ⟨S0, M, a, dx, ws, us, ds, xs, ds', d, ev, hl, hs, hM, ht, ha, e, hlw, r, o, rx, hF, hd, q⟩ => ⟨_, (body cdv A outer s H E hr).ps, ?_⟩
  subst ev
  unfold runM at hF
  split at hF
  · rename_i δ e1
    split at hF
    · rename_i ds1 d1 e2 e3
      split at hF
      · rename_i hd1
        cases hF
        have ok0 := startM_ok (Nm := N) hs hM ht ha e hlw r o rx (by omega)
        refine ⟨delS H M, S0, [], _, _, δ, d, ok0, e1, e3, hd, fun H' own' v ok' rv => ?_⟩
        obtain ⟨a', dx', ws', h1, h2, h3, h4, h5, h6⟩ := ok'.val 0 _ (oo1_of e2)
        obtain rfl : a = a' := by
          have : (L2.start N (V.ref a :: us))[0]? = some (some (.ref a)) := rfl
          rw [this] at h1
          injection h1 with h1; injection h1 with h1; injection h1
        have fin : Q v H' := q (own' 0) dx' ws' H' v ok'.kp (fun b z => ⟨by
          have := (ok'.ow 0 b z).1
          by_cases y : M b
          · exact .inl y
          · rw [delS_out y] at this; exact .inr this, (ok'.ow 0 b z).2⟩) h2 h3 h4 (h5.mono (fun b z _ => z.imp id fun z => ⟨0, z⟩) fun b z => z) h6 rv
        exact ⟨fin, fun hv => by subst hv; exact fin⟩
      · cases hF
    · cases hF
  · cases hF
theorem mem_m {P : Program} {w : World} {G : GG} {mg : Str → Option Value} {base : Heap} {c : Nat} {m qm x qi : Str} {st si : Stmt} {N ps fl : List Str} {k n : Nat} {u : DS → Option DS} {g : UEf} (kc : Cls G.K (G.cls c)) (hnf : m ∉ G.flds c) (dd : MOk G.K (G.cls c) m qm st ps) (S : FnScope N ps (defScope st)) (hn : ps.length = n + 1) (hN : n < N.length)
    (body : ∀ (f : Addr) (cdv : Value) (A : Around) (outer : List Env) (s : Shared) (H : Hp) (E : XK), Room k (A.deeper (PyProof.Rows.envOfC qm (defScope st) s.heap.objs.size f cdv)) →
      UMr G (cxOf CX0 P w G.K mg base N qm (defScope st) f cdv A outer s H E).nox (defBody st) u g) : MeM P w G.K mg base G c m (k + 1) n (runM c N.length u g) := by
  obtain ⟨f, fd, hm, FF, hb⟩ := dd.ex
  exact ⟨kc, hnf, f, fd, ps, hm, fn_m FF S hn hN (body f), hb⟩
/-! ### self.move(-self.steps[self.counts.pop()]) -/
section
variable {G : GG} {X : Cx} {k j n ci i js jc : Nat} {F : MF} {x fs' fc m : Str} {px px2 px3 apos apos2 fpos fpos2 cpos upos ipos pos spos : Pos}
end
end U
end
section
set_option Elab.async false
set_option linter.all false
set_option maxRecDepth 100000
set_option maxHeartbeats 1000000
/-! New objects that a name holds alone. -/
namespace U
open PySem PySem.Spec PyProof.Rows L2
theorem delX_out {H : Hp} {x b : Addr} (h : b ≠ x) : delS H (· = x) b = H b := delS_out (N := (· = x)) h
theorem delX_in {H : Hp} {x : Addr} : delS H (· = x) x = none := delS_in (N := (· = x)) rfl
structure UN (G : GG) (X : Cx) (e : Expr) (c : Nat) (f : ULf) (B : List Nat) : Prop where
  pe : PE X e (fun σ H Q => ∃ He S0 P own δ ds, OK G He H S0 P own σ δ ∧ f δ = some ds ∧ ∀ (N : Addr → Prop) a dx vs H', Keep H H' → (∀ b, N b → H b = none ∧ OwnO H' b) → N a → H' a = some (.ins (G.cls c) dx ((G.flds c).zip vs)) → vs.length = (G.flds c).length →
    FldsOk G H' (fun b => AvB S0 own B b ∨ N b) N vs ds → OneRef vs → Q (.ref a) H')
/-- what __init__ promises of a new object -/
def spN (G : GG) (c n : Nat) (F : List D → Option (List D)) : Sp := fun vs H Q _ => ∃ (S0 : Addr → Prop) (x dx : Addr) (us : List V) (xs ds : List D), vs = .ref x :: us ∧ us.length = n ∧ (∀ b, S0 b → H b ≠ none) ∧ ¬ S0 x ∧ TabOk G H ∧ H x = some (.ins (G.cls c) dx []) ∧ Reps G H (fun b => S0 b ∨ b = x) us xs ∧ F xs = some ds ∧
  ∀ (N : Addr → Prop) ws H', Keep (delS H (· = x)) H' → (∀ b, N b → (b = x ∨ H b = none) ∧ OwnO H' b) → N x → H' x = some (.ins (G.cls c) dx ((G.flds c).zip ws)) → ws.length = (G.flds c).length → FldsOk G H' (fun b => S0 b ∨ N b) N ws ds → OneRef ws → Q .non H'
structure MkN (P : Program) (w : World) (K : PySem.W.Frag) (mg : Str → Option Value) (base : Heap) (G : GG) (x : Str) (c k n : Nat) (F : List D → Option (List D)) : Prop where
  m : mg x = some (.ref (G.cls c))
  ex : ∃ f fd ps, Mk K (G.cls c) f ∧ FnOk P w K mg base CX0 k f fd ps (spN G c n F) ∧ Binds K fd ps []
def uNew (F : List D → Option (List D)) (fs : ULf) : ULf := fun δ => (fs δ).bind F
section
variable {G : GG} {X : Cx} {a b c e o : Expr} {es : List Expr} {f g h : UEf} {fs gs fa fb : ULf} {Ba Bb Bc B : List Nat} {pos p px apos cpos fpos spos tpos : Pos} {x fn : Str} {k j n ci i : Nat} {F : List D → Option (List D)}
theorem un_make (hF : MkN X.prog X.w X.K X.mg X.base G x ci j n F) (hr : Room k X.A) (hj : j + 1 ≤ k) (ha : UA G X (e :: es) fs B) (hl : HasLen fs n)
    (hg : L2.Gl X x := by rfl) (hdb : (x == ("__debug__" : Str)) = false := by decide) (he : starEach (e :: es) X.env = (false, eval e X.env) :: starEach es X.env := by rfl) (hpl : (backTo pos (starEach es X.env)).any (·.1) = false := by rfl) : UN G X (.Call (.Name x p) (e :: es) [] pos) ci (uNew F fs) B := by
  obtain ⟨f, fd, ps, M, FF, hb⟩ := hF.ex
  refine ⟨PE.weak (pe_make (CX := CX0) (E := E0) (dvs := []) M FF (hr.mono hj) hg hF.m hb .nil pass0 ha.pa hdb he hpl) fun σ H Q ⟨He, S0, P, own, δ, ds, ok, hf, kk⟩ => ?_⟩
  obtain ⟨xs, e1, e2⟩ := Option.bind_eq_some_iff.mp hf
  refine ⟨He, S0, P, own, δ, xs, ok, e1, fun vs H1 k1 r1 => ?_⟩
  intro y dy hy hdy hne
  have ok1 := ok.keep k1
  have kn : Keep H1 (upd (upd H1 dy (.own y)) y (.ins (G.cls ci) dy [])) := fun b u eb => .inl (by
    have n1 : b ≠ y := fun z => by rw [z, hy] at eb; cases eb
    have n2 : b ≠ dy := fun z => by rw [z, hdy] at eb; cases eb
    rw [upd_ne n1, upd_ne n2]; exact eb)
  have hS : ¬ AvB S0 own B y := fun z => ok1.avSome z hy
  refine ⟨AvB S0 own B, y, dy, vs, xs, ds, by rw [List.append_nil], by rw [r1.length]; exact hl δ xs e1, fun b z q => ok1.avSome z (kn.free q), hS, (ok1.tab.keep ok1.kp).keep kn, upd_same, (r1.mono fun b z n => ?_).keep kn, e2, fun N ws H' kp hN hx e hlw r o => ⟨rfl, ?_⟩⟩
  · rcases z with z | z
    · exact z
    · exact absurd hy (by rw [← z]; exact n)
  · have k2 : Keep H1 H' := Keep.trans (fun b u eb => .inl (by
      have n1 : b ≠ y := fun z => by rw [z, hy] at eb; cases eb
      have n2 : b ≠ dy := fun z => by rw [z, hdy] at eb; cases eb
      rw [delX_out n1, upd_ne n1, upd_ne n2]; exact eb)) kp
    refine kk N y dy ws H' (k1.trans k2) (fun b z => ⟨?_, (hN b z).2⟩) hx e hlw r o
    rcases (hN b z).1 with q | q
    · rw [q]; exact k1.free hy
    · exact k1.free (kn.free q)
def uRetO (c : Nat) (f : ULf) : US := fun _ δ => (f δ).map fun ds => .rt (.oo c ds)
theorem us_retO (he : UN G X e ci fs B) : USt G X (.Return (some e) pos) (uRetO ci fs) := ⟨PS.weak (ps_ret he.pe) fun D' σ H ⟨He, S0, P, own, δ, n, r, ok, hf, k⟩ => by
  obtain ⟨ds, e, rfl⟩ := Option.map_eq_some_iff.mp hf
  exact ⟨He, S0, P, own, δ, ds, ok, e, fun N a dx vs H1 k1 hN ha e1 hl r1 o => k N a dx vs H1 (ok.kp.trans k1) (fun b z => ⟨ok.kp.free (hN b z).1, (hN b z).2⟩) ha e1 hl (r1.mono (fun b z _ => z.imp .inl id) fun b z => z) o⟩⟩
end
/-! ### while an object is made -/
structure Ini (G : GG) (H0 H : Hp) (S0 : Addr → Prop) (x dx C : Addr) (fs : List (Str × V)) (N : Addr → Prop) (ws : List V) (ds : List D) : Prop where
  at_ : H x = some (.ins C dx fs)
  kp : Keep (delS H0 (· = x)) H
  n : ∀ b, N b → b ≠ x ∧ H0 b = none ∧ ∃ zs, H b = some (.lst zs)
  fl : FldsOk G H (fun b => (S0 b ∨ b = x) ∨ N b) N ws ds
  one : OneRef ws
  rf : ∀ l, V.ref l ∈ ws → N l
section
variable {G : GG} {H0 H H' : Hp} {S0 N : Addr → Prop} {x dx C : Addr} {fs : List (Str × V)} {ws : List V} {ds : List D}
theorem Ini.keep (h : Ini G H0 H S0 x dx C fs N ws ds) (k : Keep H H') : Ini G H0 H' S0 x dx C fs N ws ds :=
  ⟨k.at h.at_ (fun _ e => by cases e), h.kp.trans k, fun b z => let ⟨a, b, zs, c⟩ := h.n b z; ⟨a, b, zs, k.lst c⟩, h.fl.keep k, h.one, h.rf⟩
/-- x alone is written -/
theorem keepX {fs' : List (Str × V)} (hx : H x = some (.ins C dx fs)) : Keep (delS H (· = x)) (upd H x (.ins C dx fs')) := fun b o e => by
  have n : b ≠ x := fun z => by rw [z, delX_in] at e; cases e
  rw [delX_out n] at e
  exact .inl (by rw [upd_ne n]; exact e)
theorem Reps.atX {fs' : List (Str × V)} {S : Addr → Prop} {vs : List V} {es : List D} (hS : S x) (hx : H x = some (.ins C dx fs)) (r : Reps G H S vs es) : Reps G (upd H x (.ins C dx fs')) S vs es :=
  r.sv (N := (· = x)) (fun b z => by rw [z]; exact hS) (fun b z => .inr ⟨C, dx, fs, by rw [z]; exact hx⟩) (keepX hx)
theorem Keep.delX {fs' : List (Str × V)} (hx : H x = some (.ins C dx fs)) (k : Keep (delS H0 (· = x)) H) : Keep (delS H0 (· = x)) (upd H x (.ins C dx fs')) := k.wrA hx (fun u e => by cases e) delX_in
theorem FldsOk.atX {fs' : List (Str × V)} {S O : Addr → Prop} (hS : S x) (hx : H x = some (.ins C dx fs)) (h : FldsOk G H S O ws ds) : FldsOk G (upd H x (.ins C dx fs')) S O ws ds := h.imp fun v d f => by
  cases f with
  | fl a r => exact .fl a (r.flat a _ _)
  | @ls l us es o e r => exact .ls o (by rw [upd_ne (fun z : l = x => by rw [z, hx] at e; cases e)]; exact e) (r.atX hS hx)
theorem FldsOk.snoc {S O : Addr → Prop} {v : V} {d : D} (h : FldsOk G H S O ws ds) (f : FldOk G H S O v d) : FldsOk G H S O (ws ++ [v]) (ds ++ [d]) := by
  refine ⟨by simp [h.1], fun j w e a b => ?_⟩
  rcases Nat.lt_or_ge j ws.length with hj | hj
  · rw [List.getElem?_append_left hj] at a
    rw [List.getElem?_append_left (by rw [← h.1]; exact hj)] at b
    exact h.2 j w e a b
  · rw [List.getElem?_append_right hj] at a
    rw [List.getElem?_append_right (by rw [← h.1]; exact hj), ← h.1] at b
    cases q : j - ws.length with
    | zero => rw [q] at a b; cases a; cases b; exact f
    | succ m => rw [q] at a; cases a
theorem OneRef.snoc {v : V} (h : OneRef ws) (hv : ∀ l, v = .ref l → V.ref l ∉ ws) : OneRef (ws ++ [v]) := fun j k l a b => by
  have low : ∀ {m : Nat}, (ws ++ [v])[m]? = some (V.ref l) → (m < ws.length ∧ ws[m]? = some (V.ref l)) ∨ (m = ws.length ∧ v = .ref l) := fun {m} e => by
    rcases Nat.lt_or_ge m ws.length with hj | hj
    · rw [List.getElem?_append_left hj] at e; exact .inl ⟨hj, e⟩
    · rw [List.getElem?_append_right hj] at e
      cases q : m - ws.length with
      | zero => rw [q] at e; cases e; exact .inr ⟨by omega, rfl⟩
      | succ m => rw [q] at e; cases e
  rcases low a with ⟨_, a⟩ | ⟨ea, a⟩ <;> rcases low b with ⟨_, b⟩ | ⟨eb, b⟩
  · exact h j k l a b
  · exact absurd (List.mem_of_getElem? a) (hv l b)
  · exact absurd (List.mem_of_getElem? b) (hv l a)
  · rw [ea, eb]
theorem Ini.flat (h : Ini G H0 H S0 x dx C fs N ws ds) {fs' : List (Str × V)} {v : V} {d : D} {S1 : Addr → Prop} (hd : d.flat = true) (r : Rep G H S1 v d) : Ini G H0 (upd H x (.ins C dx fs')) S0 x dx C fs' N (ws ++ [v]) (ds ++ [d]) := by
  have nr : ∀ l, v ≠ .ref l := fun l z => by rw [z] at r; cases r <;> cases hd
  refine ⟨upd_same, h.kp.delX h.at_, fun b z => ?_, (h.fl.atX (.inl (.inr rfl)) h.at_).snoc (.fl hd (r.flat hd _ _)), h.one.snoc fun l e => absurd e (nr l), fun l m => ?_⟩
  · obtain ⟨a, b', zs, c⟩ := h.n b z
    exact ⟨a, b', zs, by rw [upd_ne a]; exact c⟩
  · rcases List.mem_append.mp m with m | m
    · exact h.rf l m
    · exact absurd (List.mem_singleton.mp m).symm (nr l)
theorem Ini.list (h : Ini G H0 H S0 x dx C fs N ws ds) {H1 : Hp} {p : Addr} {zs : List V} {ys : List D} (k : Keep H H1) (hp : H p = none) (hp' : H1 p = some (.lst zs)) (r : Reps G H1 (fun b => ((S0 b ∨ b = x) ∨ N b) ∨ b = p) zs ys) (fs' : List (Str × V)) :
    Ini G H0 (upd H1 x (.ins C dx fs')) S0 x dx C fs' (fun b => N b ∨ b = p) (ws ++ [.ref p]) (ds ++ [.lst ys]) := by
  have h1 := h.keep k
  have hpx : p ≠ x := fun z => by rw [z, h.at_] at hp; cases hp
  have hpw : V.ref p ∉ ws := fun m => by
    obtain ⟨_, _, zs, c⟩ := h.n p (h.rf p m)
    rw [hp] at c; cases c
  have hp0 : H0 p = none := by
    have := h.kp.free hp
    rwa [delX_out hpx] at this
  refine ⟨upd_same, h1.kp.delX h1.at_, fun b z => ?_, ?_, h.one.snoc fun l e => by cases e; exact hpw, fun l m => ?_⟩
  · rcases z with z | z
    · obtain ⟨a, b', zs, c⟩ := h1.n b z
      exact ⟨a, b', zs, by rw [upd_ne a]; exact c⟩
    · rw [z]; exact ⟨hpx, hp0, zs, by rw [upd_ne hpx]; exact hp'⟩
  · refine FldsOk.snoc ?_ (.ls (.inr rfl) (by rw [upd_ne hpx]; exact hp') ((r.mono fun b z _ => ?_).atX (.inl (.inr rfl)) h1.at_))
    · refine ((h.fl.mono (S' := fun b => (S0 b ∨ b = x) ∨ (N b ∨ b = p)) (fun b z n => ?_) (fun b z => .inl z)).keep k).atX (.inl (.inr rfl)) h1.at_
      rcases z with z | z | z
      · exact .inl z
      · exact .inr z
      · exact absurd hp (by rw [← z]; exact n)
    · rcases z with z | z | z
      · exact .inl (.inl z)
      · exact .inl (.inr z)
      · exact .inr z
  · rcases List.mem_append.mp m with m | m
    · exact .inl (h.rf l m)
    · have := List.mem_singleton.mp m
      cases this; exact .inr rfl
/-- an item of a list of the object's own is set -/
theorem Ini.put (h : Ini G H0 H S0 x dx C fs N ws ds) {j m : Nat} {l : Addr} {us : List V} {v : V} {ys : List D} {d : D} (hj : ws[j]? = some (.ref l)) (hl : H l = some (.lst us)) (hd : ds[j]? = some (.lst ys)) (r : Reps G H (fun b => (S0 b ∨ b = x) ∨ N b) us ys) (rv : Rep G H (fun b => (S0 b ∨ b = x) ∨ N b) v d) :
    Ini G H0 (upd H l (.lst (us.set m v))) S0 x dx C fs N ws (ds.set j (.lst (ys.set m d))) := by
  have hN := h.rf l (List.mem_of_getElem? hj)
  obtain ⟨hlx, hl0, _⟩ := h.n l hN
  refine ⟨by rw [upd_ne hlx.symm]; exact h.at_, h.kp.wrA hl (fun u e => by cases e) (by rw [delX_out hlx]; exact hl0), fun b z => ?_, h.fl.wr (.inr hN) hN hl hj h.one (r.set m rv), h.one, h.rf⟩
  · obtain ⟨a, b', zs, c⟩ := h.n b z
    by_cases hb : b = l
    · subst hb; exact ⟨a, b', _, upd_same⟩
    · exact ⟨a, b', zs, by rw [upd_ne hb]; exact c⟩
/-- the arguments while the object is made -/
theorem Ini.ok (h : Ini G H0 H S0 x dx C fs N ws ds) {Nm : List Str} {us : List V} {xs : List D} (hs : ∀ b, S0 b → H0 b ≠ none) (hx0 : ¬ S0 x) (ht : TabOk G H0) (hx : H0 x = some (.ins C dx [])) (rx : Reps G H0 (fun b => S0 b ∨ b = x) us xs) (hn : us.length < Nm.length) :
    OK G H H (fun b => (S0 b ∨ b = x) ∨ N b) [] (fun _ _ => False) (L2.start Nm (.ref x :: us)) (none :: startD (Nm.length - 1) xs) := by
  have r1 : Reps G H (fun b => (S0 b ∨ b = x) ∨ N b) us xs := by
    have r2 : Reps G H0 (fun b => (S0 b ∨ b = x) ∨ N b) us xs := rx.mono fun b z n => by
      rcases z with z | z
      · exact z
      · exact absurd (h.n b z).2.1 n
    exact r2.sv (N := (· = x)) (fun b z => .inl (.inr z)) (fun b z => .inr ⟨C, dx, [], by rw [z]; exact hx⟩) h.kp
  have hl := r1.length
  refine ⟨by unfold L2.start startD; simp; omega, Keep.refl H, (ht.sub (H' := delS H0 (· = x)) (fun b g ps q => by rw [delX_out (fun z : b = x => by rw [z, hx] at q; cases q)]; exact q) fun b o u q => by rw [delX_out (fun z : b = x => by rw [z, hx] at q; cases q)]; exact q).keep h.kp, fun b z => ?_, fun i b z => z.elim, fun i s q => ?_, fun i b z => z.elim, fun i j b z => z.elim, fun p hp => by cases hp⟩
  · rcases z with (z | z) | z
    · intro q
      have := h.kp.free q
      rw [delX_out (fun y : b = x => hx0 (y ▸ z))] at this
      exact hs b z this
    · rw [z, h.at_]; simp
    · obtain ⟨_, _, zs, c⟩ := h.n b z; rw [c]; simp
  · cases i with
    | zero => cases q
    | succ i =>
      rw [List.getElem?_cons_succ] at q
      unfold startD at q
      rw [List.getElem?_append] at q
      split at q
      · rename_i hi
        rw [List.getElem?_map] at q
        cases qd : xs[i]? with
        | none => rw [qd] at q; cases q
        | some d =>
          rw [qd] at q
          cases q
          obtain ⟨v, g1, g2⟩ := r1.get qd
          refine ⟨v, ?_, g2.mono fun b z _ => z.elim id fun ⟨_, z⟩ => z.elim⟩
          have hlt : i < us.length := (List.getElem?_eq_some_iff.mp g1).1
          unfold L2.start
          rw [List.map_cons, List.cons_append, List.getElem?_cons_succ, List.getElem?_append_left (by rw [List.length_map]; exact hlt), List.getElem?_map, g1]; rfl
      · rw [List.getElem?_replicate] at q
        split at q <;> cases q
/-- the object is made -/
theorem Ini.done (h : Ini G H0 H S0 x dx C fs N ws ds) (hr : ∃ l, V.ref l ∈ ws) {fl : List Str} (hfs : fs = fl.zip ws) (hlen : ws.length = fl.length) : (∀ b, (N b ∨ b = x) → (b = x ∨ H0 b = none) ∧ OwnO H b) ∧ FldsOk G H (fun b => S0 b ∨ (N b ∨ b = x)) (fun b => N b ∨ b = x) ws ds := by
  obtain ⟨l, hl⟩ := hr
  refine ⟨fun b z => ?_, h.fl.mono (fun b z _ => ?_) fun b z => .inl z⟩
  · rcases z with z | z
    · obtain ⟨a, b', zs, c⟩ := h.n b z
      exact ⟨.inr b', .inl ⟨zs, c⟩⟩
    · rw [z]
      refine ⟨.inl rfl, .inr ⟨C, dx, fs, h.at_, ?_⟩⟩
      obtain ⟨m, hm⟩ := List.mem_iff_getElem?.mp hl
      have hlt : m < fl.length := by rw [← hlen]; exact (List.getElem?_eq_some_iff.mp hm).1
      refine ⟨fl[m], l, ?_⟩
      rw [hfs]
      refine List.mem_iff_getElem?.mpr ⟨m, ?_⟩
      rw [List.getElem?_zip_eq_some]
      exact ⟨List.getElem?_eq_getElem hlt, hm⟩
  · rcases z with z | z | z
    · exact .inl (.inl z)
    · exact .inr z
    · exact .inl (.inr z)
end
end U
end
section
set_option Elab.async false
set_option linter.all false
set_option maxRecDepth 100000
set_option maxHeartbeats 1000000
/-! The walker is made; an answer with copied lists is made; C() without fields. -/
namespace U
open PySem PySem.Spec PyProof.Rows L2
/-- a class of the text whose __init__ has parameters of its own -/
structure KOk2 (K : PySem.W.Frag) (mg : Str → Option Value) (C : Addr) (x qi : Str) (si : Stmt) (ps fl : List Str) : Prop where
  m : mg x = some (.ref C)
  c : Cls K C
  na : ∀ f ∈ fl, NoAttr K C f
  ini : ∃ f fd, Mk K C f ∧ Fun K "__init__" qi si f fd ∧ Binds K fd ps []
theorem kok2_mk {K : PySem.W.Frag} {h : Heap} {mg : Str → Option Value} {C f : Addr} {x qi : Str} {si : Stmt} {ps fl : List Str} {oc : Value} {od an : Option Addr} {osl : Array (Option Value)} {kV doc pm cdv ct : Value} (X : K.In h) (Gn : h.Ns mainGlobals mg)
    (hb : ∀ (kV doc pm : Value) (an : Option Addr) (cdv ct : Value) (us : List Value), us.length = ps.length → bindArgs (PySem.W.fnOf "__init__" qi (defArgs si) (defBody si) (defScope si) .none kV doc pm an cdv ct) ⟨us, []⟩ = pure (ps.zip us))
    (aC : PySem.W.nsIn K mainGlobals x = some (some (.ref C)))
    (a1 : PySem.W.findIn K (.ref C) "__init__" = some (some (.ref f))) (i1 : PySem.W.isFn K (.ref f) = true) (l1 : K.lookup f = some ⟨oc, od, .func (PySem.W.fnOf "__init__" qi (defArgs si) (defBody si) (defScope si) .none kV doc pm an cdv ct), osl⟩) (c1 : PySem.W.codeIn K cdv qi = true) (k1 : PySem.W.keepIn K (.ref f) = true)
    (pg : PySem.W.plainGet K C Str.empty = true) (hd : PySem.W.hasDictIn K C = true) (po : PySem.W.plainOver K C = true) (sa : PySem.W.findIn K (.ref C) "__setattr__" = some (some (.builtin "object.__setattr__"))) (mk : PySem.W.makesIn K C = true) (kc : PySem.W.keepIn K (.ref C) = true)
    (na : ∀ y ∈ fl, PySem.W.findIn K (.ref C) y = some none) : KOk2 K mg (clsOf mg x) x qi si ps fl := by
  have hm := PySem.W.mg_of X Gn aC
  rw [clsOf_eq hm]
  have F := fun_mk (st := si) l1 c1 k1
  exact ⟨hm, ⟨pg, hd, po, sa⟩, na, f, _, ⟨mk, a1, i1, kc⟩, F, F.binds hb⟩
theorem fd2 {G : GG} {K : PySem.W.Frag} {mg : Str → Option Value} {c i : Nat} {x qi f : Str} {si : Stmt} {ps fl : List Str} (k : KOk2 K mg (G.cls c) x qi si ps fl) (hfl : G.flds c = fl) (hi : f ∈ fl) (at_ : ∀ vs : List V, vs.length = fl.length → (fl.zip vs).lookup f = vs[i]?) (put_ : ∀ (vs : List V) (y : V), vs.length = fl.length → putF f y (fl.zip vs) = fl.zip (vs.set i y)) : Fd1 K G c i f :=
  ⟨k.c, k.na f hi, by rw [hfl]; exact at_, by rw [hfl]; exact put_⟩
theorem putF_len (f : Str) (v : V) : ∀ fs : List (Str × V), (putF f v fs).length ≤ fs.length + 1
  | [] => Nat.le_refl _
  | (g, x) :: fs => by
    unfold putF
    split
    · simp
    · have := putF_len f v fs
      (simp only [List.length_cons]; omega)
theorem Ini.start {G : GG} {H : Hp} {S0 : Addr → Prop} {x dx C : Addr} (hx : H x = some (.ins C dx [])) : Ini G H H S0 x dx C [] (fun _ => False) [] [] :=
  ⟨hx, (fun b o e => by
    by_cases n : b = x
    · rw [n, delX_in] at e; cases e
    · rw [delX_out n] at e; exact .inl e), (fun b z => z.elim), ⟨rfl, fun j v d a => by simp at a⟩, (fun j k l a => by simp at a), (fun l m => by cases m)⟩
/-! ### the walker -/
def wFl : List Str := ["ring", "steps", "at", "counts", "often", "deeds"]
def wInit (Fct : List D → Option SV) : List D → Option (List D)
  | [.int r, .lst ss, .int p] => if flats ss && (decide (0 ≤ p) && (decide (p < r) && decide (r ≤ 1000))) then match Fct [.int r, .lst ss, .lst [.int p]] with
    | some _ => some [.int r, .lst ss, .int p, .lst [], .lst ((List.replicate r.toNat (.int 0)).set p.toNat (.int 1)), .lst []]
    | none => none else none
  | _ => none
def tWInit (G : GG) (K : PySem.W.Frag) (Fct : List D → Option SV) (B0 B2 B5 : List Nat) : TS :=
  tSeq (tDrop (tU G (uCall Fct (uCons (uVar 1) (uCons (uVar 2) (uCons (uList (uSm (uCons (uVar 3) uNil))) uNil)))) B0)) (tSeq (sFld K (tVar 0) (tVar 1) "ring") (tSeq (sFld K (tVar 0) (tUL G (uFnL bList (uCons (uVar 2) uNil)) B2) "steps") (tSeq (sFld K (tVar 0) (tVar 3) "at") (tSeq (sFld K (tVar 0) (tUL G (uSm uNil) []) "counts")
    (tSeq (sFld K (tVar 0) (tUL G (uRep (uList (uSm (uCons (uC (.int 0)) uNil))) (uVar 1)) B5) "often") (tSeq (tAsg (tC (.int 1)) (gSub (tFld K (tVar 0) "often") (tVar 3) rSetL)) (sFld K (tVar 0) (tUL G (uSm uNil) []) "deeds")))))))
theorem mk_walker {P : Program} {w : World} {G : GG} {mg : Str → Option Value} {base : Heap} {c k : Nat} {qi : Str} {si : Stmt} {Fct : List D → Option SV} {B0 B2 B5 : List Nat} (kk : KOk2 G.K mg (G.cls c) "Walker" qi si ["self", "ring", "steps", "place"] wFl) (hfl : G.flds c = wFl) (S : FnScope ["self", "ring", "steps", "place"] ["self", "ring", "steps", "place"] (defScope si))
    (body : ∀ (f : Addr) (cdv : Value) (A : Around) (outer : List Env) (s : Shared) (H : Hp) (E : XK), Room k (A.deeper (PyProof.Rows.envOfC qi (defScope si) s.heap.objs.size f cdv)) →
      PSs (cxOf CX0 P w G.K mg base ["self", "ring", "steps", "place"] qi (defScope si) f cdv A outer s H E).nox (defBody si) (tWInit G G.K Fct B0 B2 B5)) : MkN P w G.K mg base G "Walker" c (k + 1) 3 (wInit Fct) := by
  obtain ⟨f, fd, M, FF, hb⟩ := kk.ini
  refine ⟨kk.m, f, fd, _, M, FF.ok S (fun vs H Q E ⟨S0, x, dx, us, xs, ds, ev, hl, _⟩ => by rw [ev, List.length_cons, hl]; rfl) fun cdv A outer s H vs Q E hr ⟨S0, x, dx, us, xs, ds, ev, hl, hs, hx0, ht, hx, rx, hF, q⟩ => ⟨_, body f cdv A outer s H E hr, ?_⟩, hb⟩
  subst ev
  unfold wInit at hF
  split at hF
  · rename_i r ss p
    split at hF
    · rename_i hc
      split at hF
      · rename_i r0 hct
        cases hF
        rw [Bool.and_eq_true, Bool.and_eq_true, Bool.and_eq_true, decide_eq_true_eq, decide_eq_true_eq, decide_eq_true_eq] at hc
        obtain ⟨fss, hp0, hpr, hr1⟩ := hc
        have rx0 := rx
        cases rx with
        | cons r1 rr =>
        cases r1
        cases rr with
        | @cons v2 _ _ _ r2 rr =>
        cases rr with
        | cons r3 rr =>
        cases r3
        cases rr
        have hN : ([V.int r, v2, V.int p] : List V).length < (["self", "ring", "steps", "place"] : List Str).length := by show 3 < 4; decide
        have na : ∀ y ∈ wFl, NoAttr G.K (G.cls c) y := kk.na
        have i0 : Ini G H H S0 x dx (G.cls c) [] (fun _ => False) [] [] := Ini.start hx
        have av : ∀ {N : Addr → Prop} {B : List Nat} {q : Addr} (b : Addr), (((S0 b ∨ b = x) ∨ N b) ∨ b = q) → (AvB (fun b => (S0 b ∨ b = x) ∨ N b) (fun _ _ => False) B b ∨ b = q) := fun b z => z.imp .inl id
        -- check_told
        refine ⟨_, _, _, _, _, r0.d, i0.ok hs hx0 ht hx rx0 hN, ?_, fun _ H1 k1 _ => ?_⟩
        · show (Fct [.int r, .lst ss, .lst [.int p]]).map SV.d = _
          rw [hct]; rfl
        have i1 := i0.keep k1
        -- self.ring
        refine ⟨_, rfl, _, rfl, x, _, dx, _, rfl, i1.at_, kk.c, na _ (by decide), by simp, ?_⟩
        have i2 := i1.flat (fs' := putF "ring" (.int r) []) (v := .int r) (d := .int r) (S1 := S0) rfl (.int r)
        have l2 := putF_len "ring" (.int r) []
        -- self.steps
        refine ⟨_, _, _, _, _, ss, i2.ok hs hx0 ht hx rx0 hN, rfl, fun p1 z1 H3 k3 hp1 hp1' rr1 => ?_⟩
        have i3 := i2.keep k3
        refine ⟨_, rfl, x, _, dx, _, rfl, i3.at_, kk.c, na _ (by decide), by simp at l2; omega, ?_⟩
        have i4 := i2.list k3 hp1 hp1' (rr1.mono fun b z _ => av b z) (putF "steps" (.ref p1) (putF "ring" (.int r) []))
        have l4 := putF_len "steps" (.ref p1) (putF "ring" (.int r) [])
        -- self.at
        refine ⟨_, rfl, _, rfl, x, _, dx, _, rfl, i4.at_, kk.c, na _ (by decide), by simp at l2; omega, ?_⟩
        have i5 := i4.flat (fs' := putF "at" (.int p) (putF "steps" (.ref p1) (putF "ring" (.int r) []))) (v := .int p) (d := .int p) (S1 := S0) rfl (.int p)
        have l5 := putF_len "at" (.int p) (putF "steps" (.ref p1) (putF "ring" (.int r) []))
        -- self.counts
        refine ⟨_, _, _, _, _, [], i5.ok hs hx0 ht hx rx0 hN, rfl, fun p2 z2 H6 k6 hp2 hp2' rr2 => ?_⟩
        have i6 := i5.keep k6
        refine ⟨_, rfl, x, _, dx, _, rfl, i6.at_, kk.c, na _ (by decide), by simp at l2; omega, ?_⟩
        have i7 := i5.list k6 hp2 hp2' (rr2.mono fun b z _ => av b z) (putF "counts" (.ref p2) (putF "at" (.int p) (putF "steps" (.ref p1) (putF "ring" (.int r) []))))
        have l7 := putF_len "counts" (.ref p2) (putF "at" (.int p) (putF "steps" (.ref p1) (putF "ring" (.int r) [])))
        -- self.often
        refine ⟨_, _, _, _, _, List.replicate r.toNat (.int 0), i7.ok hs hx0 ht hx rx0 hN, ?_, fun p3 z3 H8 k8 hp3 hp3' rr3 => ?_⟩
        · show (if (decide (r ≤ 100000) && decide (-100000 ≤ r) && decide (([D.int 0] : List D).length ≤ 10)) = true then some (List.replicate r.toNat [D.int 0]).flatten else none) = _
          rw [if_pos (by rw [decide_eq_true (show r ≤ 100000 by omega), decide_eq_true (show -100000 ≤ r by omega)]; rfl)]
          congr 1
          induction r.toNat with
          | zero => rfl
          | succ n ih => rw [List.replicate_succ, List.flatten_cons, ih]; rfl
        have i8 := i7.keep k8
        refine ⟨_, rfl, x, _, dx, _, rfl, i8.at_, kk.c, na _ (by decide), by simp at l2; omega, ?_⟩
        have i9 := i7.list k8 hp3 hp3' (rr3.mono fun b z _ => av b z) (putF "often" (.ref p3) (putF "counts" (.ref p2) (putF "at" (.int p) (putF "steps" (.ref p1) (putF "ring" (.int r) [])))))
        have l9 := putF_len "often" (.ref p3) (putF "counts" (.ref p2) (putF "at" (.int p) (putF "steps" (.ref p1) (putF "ring" (.int r) []))))
        -- self.often[place] = 1
        have hp3x : p3 ≠ x := fun z => by rw [z, i7.at_] at hp3; cases hp3
        have h10 : (upd H8 x (.ins (G.cls c) dx (putF "often" (.ref p3) (putF "counts" (.ref p2) (putF "at" (.int p) (putF "steps" (.ref p1) (putF "ring" (.int r) []))))))) p3 = some (.lst z3) := by rw [upd_ne hp3x]; exact hp3'
        refine ⟨_, rfl, x, _, dx, _, .ref p3, rfl, i9.at_, kk.c, na _ (by decide), by kernel_rfl, _, rfl, p3, z3, p, p.toNat, rfl, rfl, h10, ?_, ?_⟩
        · unfold ixN
          rw [if_pos hp0, if_pos (by rw [rr3.length, List.length_replicate]; omega)]
        have g9 := i9.fl.2 4 (.ref p3) (.lst (List.replicate r.toNat (.int 0))) rfl rfl
        have i10 := i9.put (j := 4) (m := p.toNat) (l := p3) (us := z3) (v := .int 1) (d := .int 1) (ys := List.replicate r.toNat (.int 0)) rfl h10 rfl (by
          cases g9 with
          | fl z _ => cases z
          | ls o e r => rw [h10] at e; cases e; exact r) (.int 1)
        -- self.deeds
        refine ⟨_, _, _, _, _, [], i10.ok hs hx0 ht hx rx0 hN, rfl, fun p4 z4 H11 k11 hp4 hp4' rr4 => ?_⟩
        have i11 := i10.keep k11
        refine ⟨_, rfl, x, _, dx, _, rfl, i11.at_, kk.c, na _ (by decide), by simp at l2; omega, ?_⟩
        have i12 := i10.list k11 hp4 hp4' (rr4.mono fun b z _ => av b z) (putF "deeds" (.ref p4) (putF "often" (.ref p3) (putF "counts" (.ref p2) (putF "at" (.int p) (putF "steps" (.ref p1) (putF "ring" (.int r) []))))))
        have hz : putF "deeds" (.ref p4) (putF "often" (.ref p3) (putF "counts" (.ref p2) (putF "at" (.int p) (putF "steps" (.ref p1) (putF "ring" (.int r) []))))) = wFl.zip [.int r, .ref p1, .int p, .ref p2, .ref p3, .ref p4] := by kernel_rfl
        obtain ⟨d1, d2⟩ := i12.done ⟨p1, by simp⟩ hz rfl
        have e12 := i12.at_.trans (show some (HO.ins (G.cls c) dx _) = some (HO.ins (G.cls c) dx ((G.flds c).zip [.int r, .ref p1, .int p, .ref p2, .ref p3, .ref p4])) by rw [hz, hfl])
        exact q _ [.int r, .ref p1, .int p, .ref p2, .ref p3, .ref p4] _ i12.kp (fun b z => d1 b z) (.inr rfl) e12 (by rw [hfl]; rfl) d2 i12.one
      · cases hF
    · cases hF
  · cases hF
end U
end
section
set_option Elab.async false
set_option linter.all false
set_option maxRecDepth 100000
set_option maxHeartbeats 1000000
/-! C() without fields; tuples put together; pop; lists turned around; an answer with copied lists. -/
namespace U
open PySem PySem.Spec PyProof.Rows L2
/-! ### C() where there is no __init__ -/
structure KOk0 (K : PySem.W.Frag) (mg : Str → Option Value) (C : Addr) (x : Str) : Prop where
  m : mg x = some (.ref C)
  c : Cls K C
  mks : PySem.W.makesIn K C = true
  init : PySem.W.findIn K (.ref C) "__init__" = some (some (.builtin "object.__init__"))
  kp : PySem.W.keepIn K (.ref C) = true
section
variable {G : GG} {X : Cx} {a b c e o : Expr} {es : List Expr} {f g h : UEf} {fs gs fa fb : ULf} {Ba Bb Bc B : List Nat} {pos p px apos cpos fpos spos tpos p2 : Pos} {x fn : Str} {k j n ci i : Nat}
/-! ### t + u -/
/-! ### xs.pop() -/
/-! ### xs[::-1] -/
theorem fmS {α β : Type} {f : α → Option β} {h : α → β} : ∀ l : List α, (∀ k ∈ l, f k = some (h k)) → l.filterMap f = l.map h
  | [], _ => rfl
  | x :: l, e => by
    rw [List.filterMap_cons, e x List.mem_cons_self]
    show h x :: l.filterMap f = _
    rw [fmS l fun k hk => e k (List.mem_cons_of_mem _ hk)]; rfl
theorem pick_rev (its : List Value) : slicePick its.toArray none none (some (-1)) = its.reverse.toArray := by
  unfold slicePick
  congr 1
  have hb : sliceBounds none none (some (-1)) its.toArray.size = ((its.length : Int) - 1, -1, -1) := by
    simp [sliceBounds]
  rw [hb]
  dsimp only
  have hr : sliceRange ((its.length : Int) - 1) (-1) (-1) = (List.range its.length).map fun (k : Nat) => its.length - 1 - k := by
    unfold sliceRange
    dsimp only
    have hc : (if (-1 : Int) > 0 then (if (its.length : Int) - 1 < -1 then (-1 - ((its.length : Int) - 1) + -1 - 1) / -1 else 0) else (if (its.length : Int) - 1 > -1 then ((its.length : Int) - 1 - -1 - -1 - 1) / (- -1) else 0)) = (its.length : Int) := by
      rw [if_neg (by decide)]
      split
      · rw [show (- -1 : Int) = 1 from rfl, Int.ediv_one]; omega
      · omega
    rw [hc, Int.toNat_natCast]
    refine List.map_congr_left fun k hk => ?_
    have := List.mem_range.mp hk
    omega
  rw [hr, List.filterMap_map, fmS (h := fun k => its[its.length - 1 - k]?.getD default) _ (fun k hk => by
    have := List.mem_range.mp hk
    show its.toArray[its.length - 1 - k]? = some _
    rw [List.getElem?_toArray, List.getElem?_eq_getElem (by omega)]; rfl)]
  apply List.ext_getElem?
  intro i
  rw [List.getElem?_map]
  by_cases hi : i < its.length
  · rw [List.getElem?_range hi, List.getElem?_reverse hi, List.getElem?_eq_getElem (by omega)]
    show some (its[its.length - 1 - i]?.getD default) = _
    rw [List.getElem?_eq_getElem (by omega)]; rfl
  · rw [List.getElem?_eq_none (by simp; omega), List.getElem?_eq_none (by simp; omega)]; rfl
theorem pe_rev {j : Nat} {c1 c2 : Pos} {te : TE} (he : PE X e te) (hc : PE X (.UnaryOp .USub (.Constant (.int 1) j c1) c2) (tUn (rU fun i => .int (-i)) (tC (.int 1)))) : PE X (.Subscript e (.Slice none none (some (.UnaryOp .USub (.Constant (.int 1) j c1) c2)) p2) pos) (fun σ H Q => te σ H fun x H1 => ∃ a xs, x = .ref a ∧ SqL X.K H1 a xs ∧ ∀ q, H1 q = none → Q (.ref q) (upd H1 q (.lst xs.reverse))) := by
  intro pins s σ H Q I h
  refine Subscript_ (thn (he pins s σ H _ I h) fun v s1 ⟨x, H1, I1, r1, q1⟩ => ?_)
  refine wpAny_Slice ?_
  rw [evalPart_none]
  (refine wpAny_pure (wpAny_pure ?_))
  rw [evalPart_some]
  refine thn (hc pins s1 σ H1 (fun y H2 => y = .int (-1) ∧ H2 = H1) I1 ⟨1, rfl, rfl, rfl⟩) fun vs s3 ⟨y, H3, I3, ry, ey, eH⟩ => ?_
  subst ey eH
  obtain ⟨t, rfl⟩ := ry
  have I4 : Inv X pins σ H3 { s3 with heap := s3.heap.push { cls := .type "slice", data := .fields #[.none, .none, .int (-1) t] } } := I3.kept (t' := s3.toks) fun b ob q => Heap.get?_push_of_some _ q
  obtain ⟨a, xs, rfl, hx, q⟩ := q1
  cases r1
  obtain ⟨its, r, ht, hz⟩ := I4.list hx
  have hlen := r.length
  show wpAny (model X.prog X.w) X.A (subscriptTail e (.Slice none none (some (.UnaryOp .USub (.Constant (.int 1) j c1) c2)) p2) (.ref a) (.ref s3.heap.objs.size)) (EP X pins σ Q) X.xe { s3 with heap := s3.heap.push { cls := .type "slice", data := .fields #[.none, .none, .int (-1) t] } }
  refine tail_any (ops := [.ref a, .ref s3.heap.objs.size]) ht.isList.typeIs slot_list_getitem.lookup ?_ (by with_unfolding_all rfl)
  refine wpAny_getItem_list_slice ht.isList (Heap.IsSliceOf.new ..) .none .none (.int _ _) (by decide) ?_ (by rw [List.size_toArray] <;> omega)
  rw [pick_rev]
  refine ⟨.ref _, _, I4.laid (t' := s3.toks) (o := .lst xs.reverse) (fun b ob q => Heap.get?_push_of_some _ q) (Nat.le_refl _) ?_, rfl, q _ (I4.hok.fresh (Nat.le_refl _))⟩
  exact ⟨by rw [List.length_reverse]; exact hz, _, 0, r.reverse, Heap.get?_push_size _ rfl⟩
theorem Reps.reverse {H : Hp} {S : Addr → Prop} : ∀ {vs : List V} {ds : List D}, Reps G H S vs ds → Reps G H S vs.reverse ds.reverse
  | _, _, .nil => .nil
  | _, _, .cons h t => by rw [List.reverse_cons, List.reverse_cons]; exact (Reps.reverse t).snoc h
theorem ul_rev {j : Nat} {c1 c2 : Pos} (he : UE G X e f B) : UL G X (.Subscript e (.Slice none none (some (.UnaryOp .USub (.Constant (.int 1) j c1) c2)) p2) pos) (uRev f) B :=
  ⟨PE.weak (pe_rev he.pe (pe_un un_neg pe_int)) fun σ H Q ⟨He, S0, P, own, δ, ds, ok, hf, k⟩ => by
    unfold uRev at hf
    split at hf
    · rename_i xs e1
      cases hf
      refine ⟨He, S0, P, own, δ, _, ok, e1, fun v H1 k1 r1 => ?_⟩
      cases r1 with
      | @lst a vs _ hh n r =>
        refine ⟨a, vs, rfl, SqL.of hh, fun q hq => k q vs.reverse _ (k1.trans (Keep.new hq)) (k1.free hq) upd_same ((r.reverse.mono fun b z nn => ?_).keep (Keep.new hq))⟩
        rcases z with z | z
        · exact z
        · exact absurd hq (by rw [← z]; exact nn)
    · cases hf⟩
end
/-! ### a tuple of flat things appended; methods without arguments -/
section
variable {G : GG} {X : Cx} {a b c e o : Expr} {es : List Expr} {f g h : UEf} {fs gs fa fb : ULf} {Ba Bb Bc B : List Nat} {pos p px apos cpos fpos spos tpos p2 : Pos} {x fn : Str} {k j n ci i : Nat} {F : List D → Option SV}
end
/-! ### an answer with copied lists -/
def cFl : List Str := ["way", "heights"]
def cInit (Fcp : List D → Option SV) : List D → Option (List D)
  | [a, b] => match Fcp [a], Fcp [b] with
    | some (.ol xs), some (.ol ys) => some [.lst xs, .lst ys]
    | _, _ => none
  | _ => none
def tCInit (G : GG) (K : PySem.W.Frag) (Fcp : List D → Option SV) (B1 B2 : List Nat) : TS :=
  tSeq (sFld K (tVar 0) (tUL G (uCallL Fcp (uCons (uVar 1) uNil)) B1) "way") (sFld K (tVar 0) (tUL G (uCallL Fcp (uCons (uVar 2) uNil)) B2) "heights")
theorem mk_come {P : Program} {w : World} {G : GG} {mg : Str → Option Value} {base : Heap} {c k : Nat} {qi : Str} {si : Stmt} {Fcp : List D → Option SV} {B1 B2 : List Nat} (kk : KOk2 G.K mg (G.cls c) "Come" qi si ["self", "way", "heights"] cFl) (hfl : G.flds c = cFl) (S : FnScope ["self", "way", "heights"] ["self", "way", "heights"] (defScope si))
    (body : ∀ (f : Addr) (cdv : Value) (A : Around) (outer : List Env) (s : Shared) (H : Hp) (E : XK), Room k (A.deeper (PyProof.Rows.envOfC qi (defScope si) s.heap.objs.size f cdv)) →
      PSs (cxOf CX0 P w G.K mg base ["self", "way", "heights"] qi (defScope si) f cdv A outer s H E).nox (defBody si) (tCInit G G.K Fcp B1 B2)) : MkN P w G.K mg base G "Come" c (k + 1) 2 (cInit Fcp) := by
  obtain ⟨f, fd, M, FF, hb⟩ := kk.ini
  refine ⟨kk.m, f, fd, _, M, FF.ok S (fun vs H Q E ⟨S0, x, dx, us, xs, ds, ev, hl, _⟩ => by rw [ev, List.length_cons, hl]; rfl) fun cdv A outer s H vs Q E hr ⟨S0, x, dx, us, xs, ds, ev, hl, hs, hx0, ht, hx, rx, hF, q⟩ => ⟨_, body f cdv A outer s H E hr, ?_⟩, hb⟩
  subst ev
  unfold cInit at hF
  split at hF
  · rename_i a b
    split at hF
    · rename_i xs ys e1 e2
      cases hF
      have rx0 := rx
      cases rx with
      | @cons v1 _ _ _ r1 rr =>
      cases rr with
      | @cons v2 _ _ _ r2 rr =>
      cases rr
      have hN : ([v1, v2] : List V).length < (["self", "way", "heights"] : List Str).length := by show 2 < 3; decide
      have na : ∀ y ∈ cFl, NoAttr G.K (G.cls c) y := kk.na
      have i0 : Ini G H H S0 x dx (G.cls c) [] (fun _ => False) [] [] := Ini.start hx
      have av : ∀ {N : Addr → Prop} {B : List Nat} {q : Addr} (b : Addr), (((S0 b ∨ b = x) ∨ N b) ∨ b = q) → (AvB (fun b => (S0 b ∨ b = x) ∨ N b) (fun _ _ => False) B b ∨ b = q) := fun b z => z.imp .inl id
      refine ⟨_, _, _, _, _, xs, i0.ok hs hx0 ht hx rx0 hN, ?_, fun p1 z1 H3 k3 hp1 hp1' rr1 => ?_⟩
      · show (match Fcp [a] with | some (.ol xs) => some xs | _ => none) = _
        rw [e1]
      refine ⟨_, rfl, x, _, dx, _, rfl, (i0.keep k3).at_, kk.c, na _ (by decide), by simp, ?_⟩
      have i4 := i0.list k3 hp1 hp1' (rr1.mono fun b z _ => av b z) (putF "way" (.ref p1) [])
      refine ⟨_, _, _, _, _, ys, i4.ok hs hx0 ht hx rx0 hN, ?_, fun p2 z2 H6 k6 hp2 hp2' rr2 => ?_⟩
      · show (match Fcp [b] with | some (.ol xs) => some xs | _ => none) = _
        rw [e2]
      refine ⟨_, rfl, x, _, dx, _, rfl, (i4.keep k6).at_, kk.c, na _ (by decide), by have := putF_len "way" (.ref p1) []; simp at this; omega, ?_⟩
      have i7 := i4.list k6 hp2 hp2' (rr2.mono fun b z _ => av b z) (putF "heights" (.ref p2) (putF "way" (.ref p1) []))
      have hz : putF "heights" (.ref p2) (putF "way" (.ref p1) []) = cFl.zip [.ref p1, .ref p2] := by kernel_rfl
      obtain ⟨d1, d2⟩ := i7.done ⟨p1, by simp⟩ hz rfl
      have e12 := i7.at_.trans (show some (HO.ins (G.cls c) dx _) = some (HO.ins (G.cls c) dx ((G.flds c).zip [.ref p1, .ref p2])) by rw [hz, hfl])
      exact q _ [.ref p1, .ref p2] _ i7.kp (fun b z => d1 b z) (.inr rfl) e12 (by rw [hfl]; rfl) d2 i7.one
    · cases hF
  · cases hF
end U
end
section
set_option Elab.async false
set_option linter.all false
set_option maxRecDepth 100000
set_option maxHeartbeats 1000000
/-! all(..), any(..) of a generator with one clause: its word. -/
namespace U
open PySem PySem.Spec L2
def uGAs (cont : Bool) (gu : UG) (f : UEf) (δ : DS) : List D → Option Bool
  | [] => some cont
  | d :: ds => match gu d δ with
    | none => none
    | some δ1 => match f δ1 with
      | some (.bl b) => if b = cont then uGAs cont gu f δ ds else some (!cont)
      | _ => none
def uGA (cont : Bool) (src : ULf) (B : List Nat) (gu : UG) (f : UEf) (vs : List Nat) : UEf := fun δ => match src δ with
  | some ds => (uGAs cont gu f (wipeD (dem B δ) vs) ds).map .bl
  | none => none
theorem bl_other {b c : Bool} (h : b ≠ c) : b = !c := by cases b <;> cases c <;> simp_all
theorem ga_read {G : GG} {K : PySem.W.Frag} {cont : Bool} {P : Addr} {src : ULf} {g : TG} {gu : UG} {f : UEf} {B Be vs : List Nat} (hP : P ∈ G.tabs) (hr : RawG G K g gu vs) {σ : L2.St} {H : Hp} {Q : VK} : tU G (uGA cont src B gu f vs) [] σ H Q → tGA cont P (tUI G src B) g (tU G f Be) vs σ H Q := fun ⟨He, S0, Pn, ow, δ, out, ok, hf, k⟩ => by
  unfold uGA at hf
  split at hf
  · rename_i ds h1
    obtain ⟨b, hb, rfl⟩ := Option.map_eq_some_iff.mp hf
    refine ⟨He, S0, Pn, ow, δ, ds, ok, h1, fun J pp H1 k1 pin w => ?_⟩
    have ok0 := ok.keep k1
    have ok1 := ok0.dem B
    obtain ⟨ps, hps, htri⟩ := ok0.tab.keep ok0.kp P hP
    refine ⟨ps, hps, htri, fun ps' ht => ⟨fun i m H => m = ds.length - i ∧ i ≤ ds.length ∧ Keep H1 H ∧ uGAs cont gu f (wipeD (dem B δ) vs) (ds.drop i) = some b, ⟨ds.length, by omega, Nat.zero_le _, Keep.tbl hps ht, hb⟩, ?_⟩⟩
    rintro i m H ⟨rfl, hi, kH, hf⟩
    have pinH : PinOk G H (Av S0 (ownB ow B)) pp := fun q hq => (pin q hq).keep kH
    by_cases hlt : i < ds.length
    · refine .inr ⟨w.go _ i H pinH hlt, fun H' => Keep H1 H' ∧ uGAs cont gu f (wipeD (dem B δ) vs) (ds.drop (i + 1)) = some b, fun H' q => ⟨ds.length - (i + 1), by omega, rfl, hlt, q⟩, fun x H' y => ?_⟩
      obtain ⟨d, e1, k2, rx⟩ := w.yld _ i H x H' pinH hlt y
      rw [List.drop_eq_getElem_cons hlt] at hf
      have e2 : ds[i] = d := by rw [List.getElem?_eq_getElem hlt] at e1; exact Option.some.inj e1
      rw [e2] at hf
      unfold uGAs at hf
      split at hf
      · cases hf
      · rename_i δ1 e3
        refine hr.run (ok1.keep (kH.trans k2)) rx e3 fun σ2 own2 ho1 ho2 hw2 ok2 => ⟨hw2, ?_⟩
        split at hf
        · rename_i b' e5
          refine ⟨He, S0, Pn, own2, δ1, .bl b', ok2, e5, fun v H4 k4 r4 => ?_⟩
          cases r4 with
          | bl _ =>
            have k14 : Keep H1 H4 := kH.trans (k2.trans k4)
            by_cases hbc : b' = cont
            · rw [if_pos hbc] at hf
              exact .inl ⟨by rw [hbc], k14, hf⟩
            · rw [if_neg hbc] at hf
              cases hf
              exact .inr ⟨by rw [bl_other hbc], k _ _ (k1.trans k14) (.bl _)⟩
        · cases hf
    · have e : i = ds.length := by omega
      subst e
      rw [List.drop_length] at hf
      cases hf
      exact .inl ⟨w.stop _ _ H pinH (Nat.le_refl _), k _ _ (k1.trans kH) (.bl _)⟩
  · cases hf
theorem u_ga {G : GG} {X : Cx} {cont : Bool} {nm : Str} {idn : String} {k : Nat} {elt tg iter : Expr} {p gpos pos : Pos} {scope : Scope} {own : List (Str × Nat)} {src : ULf} {g : TG} {gu : UG} {f : UEf} {B Be : List Nat} (hc : GenCx G X) (hr : Room (k + 1) X.A) (hi : UI G X tg iter src B) (hraw : RawG G X.K g gu (own.map (·.2))) (ok : BlkOk X.N X.env.scope scope own)
    (hg' : ∀ (A' : Around) (s : Shared) (H : Hp) (C : Addr) (cl : List (Str × Addr)) (code : Value) (fp : List Addr), PG (gcx X A' s H (genEnv scope cl C code builtinsNs X.env) fp) tg g)
    (he' : ∀ (A' : Around) (s : Shared) (H : Hp) (C : Addr) (cl : List (Str × Addr)) (code : Value) (fp : List Addr), Room k A' → UE G (gcx X A' s H (genEnv scope cl C code builtinsNs X.env) fp) elt f Be)
    (hm : X.mg nm = none) (hN : X.N.Nodup) (hcalm : X.calm = true := by rfl) (hid : idn = if cont then "all" else "any" := by rfl) (hv : bootBuiltins nm = some (.builtin idn) := by decide +kernel) (hg : L2.Gl X nm := by rfl) (hn : nm ≠ "__name__" := by decide) (hdb : (nm == ("__debug__" : Str)) = false := by decide)
    (hco : scope.isCoroutine = false := by rfl) (hcell : ∀ y ∈ scope.names, y.2 ≠ .cell := by decide +kernel) (h0 : scope.names.lookup (".0" : Str) = some NameKind.local := by rfl)
    (hs : ∀ v, genFold iter X.env v = pure v := by intro _; rfl) (he : starEach [.GeneratorExp elt [⟨tg, iter, [], 0⟩] scope gpos] X.env = (false, eval (.GeneratorExp elt [⟨tg, iter, [], 0⟩] scope gpos) X.env) :: starEach [] X.env := by rfl) (hpl : (backTo pos (starEach [] X.env)).any (·.1) = false := by rfl) :
    UE G X (.Call (.Name nm p) [.GeneratorExp elt [⟨tg, iter, [], 0⟩] scope gpos] [] pos) (uGA cont src B gu f (own.map (·.2))) [] := by
  obtain ⟨c, P, bm, ob, hcode, hCA, hB, hP⟩ := hc.ex
  exact ⟨PE.weak (pe_ga hid hr hcalm hN hi.pi ok hg' (fun A' s H C cl code fp r => (he' A' s H C cl code fp r).pe) hcode hCA hB hm hv hg hn hdb hco hcell h0 hs he hpl) fun σ H Q h => ga_read hP hraw h⟩
end U
end
section
set_option Elab.async false
set_option linter.all false
set_option maxRecDepth 100000
set_option maxHeartbeats 1000000
/-! Tuples: their truth, their slices; a module's dict of texts and numbers. -/
namespace U
open PySem PySem.Spec L2
section
variable {G : GG} {X : Cx} {a b c e o : Expr} {f g h : UEf} {Ba Bb Bc B : List Nat} {pos p : Pos}
end
/-! ### a module's dict -/
def dGetV (kvs : List (Str × Int)) (y : Str) : V := match kvs.lookup y with | some i => .int i | none => .non
structure DctC (w : World) (K : PySem.W.Frag) (mg : Str → Option Value) (x : Str) (kvs : List (Str × Int)) : Prop where
  ex : ∃ a es n, mg x = some (.ref a) ∧ K.lookup a = some ⟨.type "dict", none, .dict es n, #[]⟩ ∧ PySem.W.KeysLit w.params es.toList ∧ (a == sysModules) = false ∧ ∀ y, RelV (dGetV kvs y) ((findBy Value.isStrOf es y).getD .none)
end U
end
section
set_option Elab.async false
set_option linter.all false
set_option maxRecDepth 100000
set_option maxHeartbeats 1000000
/-! A generator with two clauses: its turns. -/
namespace U
open PySem PySem.Spec L2
end U
end
section
set_option Elab.async false
set_option linter.all false
set_option maxRecDepth 100000
set_option maxHeartbeats 1000000
/-! A generator with two clauses: the walk. -/
namespace U
open PySem PySem.Spec L2
section
variable {X : Cx} {A : Around} {cont : Bool} {elt t0 i0 t1 i1 : Expr} {scope : Scope} {pos : Pos} {it : Addr} {gn : Nat} {cenv : Env} {fp : List Addr} {tn : Nat → Heap → Prop} {J : It} {s3 : Shared} {H3 : Hp} {pn : List (Addr × Obj)} {σ : L2.St} {vs vs1 : List Nat} {W : Nat → Nat → Hp → Prop} {Qe Qf : Hp → Prop} {g0 g1 : TG} {wi1 : TI} {te : TE}
end
end U
end
section
set_option Elab.async false
set_option linter.all false
set_option maxRecDepth 100000
set_option maxHeartbeats 1000000
/-! all(..), any(..) of a generator with two clauses: the rule. -/
namespace U
open PySem PySem.Spec L2
end U
end
section
set_option Elab.async false
set_option linter.all false
set_option maxRecDepth 100000
set_option maxHeartbeats 1000000
/-! all(..), any(..) of a generator with two clauses: its word. -/
namespace U
open PySem PySem.Spec L2
section
variable {G : GG} {i j : Nat}
end
end U
end
section
set_option Elab.async false
set_option linter.all false
set_option maxRecDepth 100000
set_option maxHeartbeats 1000000
/-! Two names at once, the first a call that hands back something of its own; flat things keep no address. -/
namespace U
open PySem PySem.Spec L2
section
variable {G : GG} {X : Cx} {a b c e o : Expr} {es : List Expr} {f g h : UEf} {fs gs : ULf} {Ba Bb Bc B : List Nat} {pos p : Pos} {x : Str} {k j n : Nat} {F : List D → Option SV}
end
end U
end
section
set_option Elab.async false
set_option linter.all false
set_option maxRecDepth 100000
set_option maxHeartbeats 1000000
/-! isinstance(e, (S, T)) of two built-in types; an expression of which nothing is told. -/
namespace U
open PySem PySem.Spec L2 PyProof.Rows
section
variable {G : GG} {X : Cx} {a b c e o : Expr} {es : List Expr} {f g h : UEf} {fs gs : ULf} {Ba Bb Bc B : List Nat} {pos : Pos}
end
end U
end
section
set_option Elab.async false
set_option linter.all false
set_option maxRecDepth 100000
set_option maxHeartbeats 1000000
/-! Exceptions: one that flies, one that leaves a def. -/
namespace U
open PySem PySem.Spec L2 PyProof.Rows
theorem hok_tr {P : Program} {w : World} {H : Hp} {h h' : Heap} (x : HOk P w H h) (k : ∀ b u, H b ≠ none → h.get? b = some u → h'.get? b = some u) : HOk P w H h' := fun a o e =>
  (x a o e).stay (fun b u hb q => k b u (by
    rcases hb with rfl | hb
    · rw [e]; exact fun z => nomatch z
    · rw [hb]; exact fun z => nomatch z) q) (fun _ q => q) fun _ _ q => q
/-- an exception at ea, of the class cls, has come to the callers' frames; what was there ahead of the call is there as H' tells -/
structure Fly (P : Program) (w : World) (outer : List Env) (H : Hp) (s : Shared) (cls : Value) (H' : Hp) (ea : Addr) (s' : Shared) : Prop where
  os : s'.os = s.os
  bare : AllBare s'.gens
  un : Un (frs outer) [] H H' s.heap s'.heap
  ex : ∃ a0 B, (∀ h : Heap, B.StaysIn h → HOk P w H' h) ∧ Heap.FlyingW B outer ea cls a0 s'.heap ∧ ∀ b o, s.heap.get? b = some o → b ∉ frs outer → ∃ o', B.get? b = some o'
def CX1 (P : Program) (w : World) : CXT := fun outer H s E e s' => ∃ ea cls H', e = .ref ea ∧ Fly P w outer H s cls H' ea s' ∧ E cls none H'
/-- from the state at a frame's entry to the one behind it -/
theorem un_fly {fs : List Addr} {H0 H : Hp} {h h1 h' : Heap} (u : Un fs [] H0 H h h1) (kB : ∀ b o o1, h.get? b = some o → b ∉ fs → h1.get? b = some o1 → h'.get? b = some o1)
    (sl : ∀ b ∈ fs, ∀ o1, h1.get? b = some o1 → ∃ sl, h'.get? b = some { o1 with slots := sl }) : Un fs [] H0 H h h' where
  keep := fun b o e n hb hx => kB b o o e hb (u.keep b o e n hb hx)
  slot := fun b o e n hb hx => by
    obtain ⟨s1, e1⟩ := u.slot b o e n hb hx
    obtain ⟨s2, e2⟩ := sl b hb _ e1
    exact ⟨s2, e2⟩
  free := u.free
  there := fun b o e hx => by
    obtain ⟨o1, e1⟩ := u.there b o e hx
    by_cases hb : b ∈ fs
    · obtain ⟨s2, e2⟩ := sl b hb _ e1
      exact ⟨_, e2⟩
    · exact ⟨o1, kB b o o1 e hb e1⟩
  tups := u.tups
  frzs := u.frzs
  tbls := u.tbls
section
variable {P : Program} {w : World} {K : PySem.W.Frag} {mg : Str → Option Value} {base : Heap} {N : List Str} {qual : Str} {scope : Scope} {f : Addr} {cd : Value} {A : Around} {outer : List Env} {s : Shared} {H0 : Hp} {E : XK}
theorem mem_frs {l : List Env} : ∀ env ∈ l, ∀ b, env.frame = some b → b ∈ frs l := fun env he b hb => List.mem_filterMap.mpr ⟨env, he, hb⟩
/-- an entry's own frame is new -/
theorem not_loc {b : Addr} {o : Obj} (e : s.heap.get? b = some o) (hb : b ∉ frs outer) : b ∉ frs (envOfC qual scope s.heap.objs.size f cd :: outer) := fun hm => by
  (obtain ⟨env, he, hf⟩ := List.mem_filterMap.mp hm)
  (rcases List.mem_cons.mp he with rfl | he)
  · have h1 : s.heap.objs.size = b := Option.some.inj hf
    have h2 := Heap.lt_size e
    rw [← h1] at h2
    exact absurd h2 (Nat.lt_irrefl _)
  · exact hb (List.mem_filterMap.mpr ⟨env, he, hf⟩)
/-- a new exception leaves the def -/
theorem leaf_xe {pins : List (Addr × Obj)} {σ : L2.St} {H : Hp} {s1 : Shared} {h' : Heap} {ea : Addr} {cls : Value} {args : List Value} (I : Inv (cxOf (CX1 P w) P w K mg base N qual scope f cd A outer s H0 E) pins σ H s1) (hx : Heap.MadeExcOf s1.heap h' ea cls args)
    (hE : E cls none H) : (cxOf (CX1 P w) P w K mg base N qual scope f cd A outer s H0 E).xe (.ref ea) { s1 with heap := h' } := by
  show wpAny (model P w) (A.deeper (envOfC qual scope s.heap.objs.size f cd)) (leaving (envOfC qual scope s.heap.objs.size f cd) (.ref ea)) _ _ _
  have st : s1.heap.FunFrames base (envOfC qual scope s.heap.objs.size f cd :: outer) := I.stack
  have fr0 : ∀ b ∈ frs (envOfC qual scope s.heap.objs.size f cd :: outer), H b = none := I.stkFree
  have un : Un (frs outer) [] H0 H s.heap s1.heap := I.base
  have hub : ∀ b o, s1.heap.get? b = some o → b ∉ frs (envOfC qual scope s.heap.objs.size f cd :: outer) → (PySem.W.hideAll s1.heap (frs (envOfC qual scope s.heap.objs.size f cd :: outer))).get? b = some o := fun b o e hb => PySem.W.hideAll_get _ e hb
  refine wpAny_leaves_madeW (base := PySem.W.hideAll s1.heap (frs (envOfC qual scope s.heap.objs.size f cd :: outer))) (h := s1.heap) (outer := outer) (cls := cls) (args := args) I.ok.frames rfl (fun b o q => PySem.W.of_hideAll _ q) (PySem.W.funFrames_hide st mem_frs) hx ?_
  intro h2 t hfl _ _ hup
  refine ⟨ea, cls, H, rfl, ⟨I.os, I.bare, ?_, .ref t, _, ?_, hfl, ?_⟩, hE⟩
  · refine un_fly un (fun b o o1 e hb e1 => hfl.1 b o1 (hub b o1 e1 (not_loc e hb))) fun b hb o1 e1 => ?_
    have hd : ∀ vs, o1.data ≠ .fields vs := by
      obtain ⟨_, o, ho, hd⟩ := st.mem (show b ∈ frs (envOfC qual scope s.heap.objs.size f cd :: outer) from by
        obtain ⟨env, he, hf⟩ := List.mem_filterMap.mp hb
        exact List.mem_filterMap.mpr ⟨env, List.mem_cons_of_mem _ he, hf⟩)
      rw [e1] at ho; cases ho; exact hd
    exact hup b o1 (hx.keeps b o1 e1) hd
  · exact fun h3 k3 => hok_tr I.hok fun b u hb e => k3 b u (hub b u e fun z => hb (fr0 b z))
  · exact fun b o e hb => by
      obtain ⟨o1, e1⟩ := un.there b o e (by simp)
      exact ⟨o1, hub b o1 e1 (not_loc e hb)⟩
/-- an exception of a callee leaves the def, too -/
theorem pass1 : Passes (CX1 P w) (cxOf (CX1 P w) P w K mg base N qual scope f cd A outer s H0 E) E := by
  rintro pins σ H s1 e s2 I ⟨ea, cls, H', rfl, ⟨os, bare, un1, a0, B, hok, hfl, inB⟩, hE⟩
  show wpAny (model P w) (A.deeper (envOfC qual scope s.heap.objs.size f cd)) (leaving (envOfC qual scope s.heap.objs.size f cd) (.ref ea)) _ _ _
  have J : Inv (cxOf (CX1 P w) P w K mg base N qual scope f cd A outer s H0 E) pins σ H' s2 := I.call' os un1 (hok _ hfl.1) bare fun b z => absurd z (by simp)
  have st : s2.heap.FunFrames base (envOfC qual scope s.heap.objs.size f cd :: outer) := J.stack
  have un0 : Un (frs outer) [] H0 H s.heap s1.heap := I.base
  have un2 : Un (frs outer) [] H0 H' s.heap s2.heap := J.base
  have inB' : ∀ b o, s.heap.get? b = some o → b ∉ frs outer → ∃ o', B.get? b = some o' := fun b o e hb => by
    obtain ⟨o1, e1⟩ := un0.there b o e (by simp)
    exact inB b o1 e1 (not_loc e hb)
  refine wpAny_leaves_onW (base := B) (cls := cls) (a0 := a0) J.ok.frames rfl hfl fun h2 hfl2 hup => ?_
  refine ⟨ea, cls, H', rfl, ⟨J.os, J.bare, ?_, a0, B, hok, hfl2, inB'⟩, hE⟩
  refine un_fly un2 (fun b o o1 e hb e1 => ?_) fun b hb o1 e1 => ?_
  · obtain ⟨o', e'⟩ := inB' b o e hb
    have e2 := hfl.1 b o' e'
    rw [e1] at e2
    cases e2
    exact hfl2.1 b o1 e'
  · have hd : ∀ vs, o1.data ≠ .fields vs := by
      obtain ⟨_, o, ho, hd⟩ := st.mem (show b ∈ frs (envOfC qual scope s.heap.objs.size f cd :: outer) from by
        obtain ⟨env, he, hf⟩ := List.mem_filterMap.mp hb
        exact List.mem_filterMap.mpr ⟨env, List.mem_cons_of_mem _ he, hf⟩)
      rw [e1] at ho; cases ho; exact hd
    exact hup b o1 e1 hd
end
end U
end
section
set_option Elab.async false
set_option linter.all false
set_option maxRecDepth 100000
set_option maxHeartbeats 1000000
/-! Defs that raise: their words tell the class's name. -/
namespace U
open PySem PySem.Spec L2 PyProof.Rows
abbrev bmV : List Value := [.type "ValueError", .type "Exception", .type "BaseException", .type "object"]
/-- an own class under ValueError, without methods -/
structure ExcK (K : PySem.W.Frag) (mg : Str → Option Value) (x : Str) : Prop where
  ex : ∃ C, mg x = some (.ref C) ∧ PySem.W.excIn K C bmV "ValueError.__new__" = true
theorem exc_mk {K : PySem.W.Frag} {h : Heap} {mg : Str → Option Value} {x : Str} {C : Addr} (X : K.In h) (Gn : h.Ns mainGlobals mg) (a : PySem.W.nsIn K mainGlobals x = some (some (.ref C))) (q : PySem.W.excIn K C bmV "ValueError.__new__" = true) : ExcK K mg x := ⟨C, PySem.W.mg_of X Gn a, q⟩
/-- the class's object -/
theorem exc_obj {K : PySem.W.Frag} {h : Heap} {C : Addr} (X : K.In h) (q : PySem.W.excIn K C bmV "ValueError.__new__" = true) :
    ∃ bm N nm qn bs hdct sn sub ab col dd k0 k1 k2 k3 k5 mN, h.get? C = some (excClassObj nm qn C N bs bm hdct sn sub ab col dd k0 k1 k2 k3 k5 "ValueError.__new__") ∧ h.Ns N mN ∧ mN "__init__" = none ∧ OwnTail h bmV bm := by
  unfold PySem.W.excIn at q
  split at q
  · rename_i dd cd sl ho
    split at q
    · rename_i C' bm k0 k1 k2 k3 nw k5 hm hs
      (simp only [Bool.and_eq_true, beq_iff_eq, Bool.not_eq_true'] at q)
      (obtain ⟨⟨⟨⟨⟨rfl, rfl⟩, hdel⟩, ht⟩, hok⟩, hni⟩ := q)
      (obtain ⟨nm, bs, mro, ns, qn, hd, sn, sub, ab, col, del⟩ := cd)
      dsimp only at hm hdel hok hni
      subst hm hdel
      obtain ⟨l⟩ := sl
      dsimp only at hs
      subst hs
      exact ⟨bm, ns, nm, qn, bs, hd, sn, sub, ab, col, dd, k0, k1, k2, k3, k5, _, X _ _ ho, .of_isNs (PySem.W.isNs_of_in X hok), PySem.W.nsMap_none_of_in X hok hni, PySem.W.tail_of_in X ht⟩
    · cases q
  · cases q
/-- a new exception reaches what is wanted -/
def Leaf (X : Cx) (E : XK) : Prop := ∀ (pins : List (Addr × Obj)) (σ : L2.St) (H : Hp) (s1 : Shared) (h' : Heap) (ea : Addr) (cls : Value) (args : List Value), Inv X pins σ H s1 → Heap.MadeExcOf s1.heap h' ea cls args → E cls none H → X.xe (.ref ea) { s1 with heap := h' }
def tRaise (E : XK) (C : Addr) : TS := fun _ _ H => E (.ref C) none H
section
variable {G : GG} {X : Cx} {E : XK} {c e : Expr} {es : List Expr} {st : Stmt} {rest : List Stmt} {tc : UTf} {fs : ULf} {B : List Nat} {u : US} {R : DS → Option Str} {pos p : Pos} {x : Str} {k j n : Nat}
theorem ps_raise {C : Addr} {msg : Str} {kk : Nat} {np mp cpos rpos : Pos} (hL : Leaf X E) (hC : ExcK X.K X.mg x) (hm : X.mg x = some (.ref C)) (hc : X.calm = true := by rfl) (hg : L2.Gl X x := by rfl) (hd : (x == ("__debug__" : Str)) = false := by decide)
    (he : starEach [.Constant (.str msg) kk mp] X.env = (false, eval (.Constant (.str msg) kk mp) X.env) :: starEach [] X.env := by rfl) (hpl : (backTo cpos (starEach [.Constant (.str msg) kk mp] X.env)).any (·.1) = false := by rfl) :
    PS X (.Raise (some (.Call (.Name x np) [.Constant (.str msg) kk mp] [] cpos)) none rpos) (tRaise E C) := by
  intro pins s σ H D I hE
  obtain ⟨C', hm', q⟩ := hC.ex
  have hcc : C' = C := by rw [hm] at hm'; cases hm'; rfl
  subst hcc
  obtain ⟨tl, N, nm, qn, bs, hdct, sn, sub, ab, col, dd, k0, k1, k2, k3, k5, mN, hCo, hN, hni, T⟩ := exc_obj I.kIn q
  refine wpAny_Raise_call_subT (C := C') (nm := nm) (q := qn) (N := N) (bs := bs) (bm := tl) (hdct := hdct) (sn := sn) (sub := sub) (ab := ab) (col := col) (dd := dd) (k0 := k0) (k1 := k1) (k2 := k2) (k3 := k3) (k5 := k5)
    PySem.F.excBase_ValueError (mN := mN) (T.hasType PySem.F.excBase_ValueError.hasBase) (I.ok.hd hc) hpl hni (ld_glob I hg hm ⟨rfl, ?_⟩ hd)
  rw [he]
  refine Calls.evalArgs_plain ?_
  show wpAny _ _ (spliced ((false, eval (.Constant (.str msg) kk mp) X.env) :: backTo cpos (starEach [] X.env))) _ _ s
  refine Calls.spliced_cons (Calls.Constant_str (Calls.spliced_nil ⟨rfl, ?_, hCo, hN, T, fun h' ea hx => hL pins σ H _ h' ea _ _ (I.tok _) hx hE⟩))
  show 1 ≤ sizeLine
  decide
/-- statements that end in an exception -/
def tUR (G : GG) (E : XK) (mg : Str → Option Value) (R : DS → Option Str) : TS := fun _ σ H => ∃ He S0 P own δ y, OK G He H S0 P own σ δ ∧ R δ = some y ∧ ∀ H', Keep He H' → E (.ref (clsOf mg y)) none H'
structure URt (G : GG) (X : Cx) (E : XK) (st : Stmt) (R : DS → Option Str) : Prop where
  ps : PS X st (tUR G E X.mg R)
structure URs (G : GG) (X : Cx) (E : XK) (st : List Stmt) (R : DS → Option Str) : Prop where
  ps : PSs X st (tUR G E X.mg R)
theorem ur_here (h : URt G X E st R) : URs G X E (st :: rest) R := ⟨fun pins s σ H D I hq => by
  refine wpAny_execs_cons (thn (h.ps pins s σ H { nx := fun _ _ => False, rt := fun _ _ => False } I hq) fun f s1 q => ?_)
  cases f with
  | next => obtain ⟨_, _, _, q⟩ := q; exact q.elim
  | brk => obtain ⟨_, _, _, q⟩ := q; exact q.elim
  | cont => obtain ⟨_, _, _, q⟩ := q; exact q.elim
  | ret v => obtain ⟨_, _, _, _, _, q⟩ := q; exact q.elim⟩
def rNext (fuel : Nat) (u : US) (R : DS → Option Str) : DS → Option Str := fun δ => match u fuel δ with | some (.nx δ') => R δ' | _ => none
theorem ur_next {fuel : Nat} (h1 : USt G X st u) (h2 : URs G X E rest R) : URs G X E (st :: rest) (rNext fuel u R) := ⟨PSs.weak (pss_cons h1.ps h2.ps) fun D σ H ⟨He, S0, P, own, δ, y, ok, hR, k⟩ => by
  unfold rNext at hR
  split at hR
  · rename_i δ' e
    exact ⟨He, S0, P, own, δ, fuel, .nx δ', ok, e, fun σ' H' own' ok' => ⟨He, S0, P, own', δ', y, ok', hR, k⟩⟩
  · cases hR⟩
def rIf (tc : UTf) (x : Str) : DS → Option Str := fun δ => match tc δ with | some true => some x | _ => none
theorem ur_if {msg : Str} {kk : Nat} {np mp cpos rpos : Pos} (hL : Leaf X E) (hC : ExcK X.K X.mg x) (ht : UT G X c tc) (hc : X.calm = true := by rfl) (hg : L2.Gl X x := by rfl) (hd : (x == ("__debug__" : Str)) = false := by decide)
    (he : starEach [.Constant (.str msg) kk mp] X.env = (false, eval (.Constant (.str msg) kk mp) X.env) :: starEach [] X.env := by rfl) (hpl : (backTo cpos (starEach [.Constant (.str msg) kk mp] X.env)).any (·.1) = false := by rfl) :
    URt G X E (.If c [.Raise (some (.Call (.Name x np) [.Constant (.str msg) kk mp] [] cpos)) none rpos] [] pos) (rIf tc x) := by
  obtain ⟨C, hm, _⟩ := hC.ex
  refine ⟨PS.weak (ps_if ht.pt (pss_one (ps_raise hL hC hm hc hg hd he hpl)) pss_never) fun D σ H ⟨He, S0, P, own, δ, y, ok, hR, k⟩ => ?_⟩
  unfold rIf at hR
  split at hR
  · rename_i e
    cases hR
    refine ⟨He, S0, P, own, δ, true, ok, e, fun H' k' => ?_⟩
    have := k H' (ok.kp.trans k')
    rw [clsOf_eq hm] at this
    exact this
  · cases hR
/-- a def's promise where it raises -/
def eSp (G : GG) (mg : Str → Option Value) (n : Nat) (R : List D → Option Str) : Sp := fun vs H _ E => ∃ S0 ds y, vs.length = n ∧ (∀ a, S0 a → H a ≠ none) ∧ TabOk G H ∧ Reps G H S0 vs ds ∧ R ds = some y ∧ ∀ H', Keep H H' → E (.ref (clsOf mg y)) none H'
structure FnE (P : Program) (w : World) (K : PySem.W.Frag) (mg : Str → Option Value) (base : Heap) (G : GG) (x : Str) (k n : Nat) (R : List D → Option Str) : Prop where
  ex : ∃ f fd ps, FnOk P w K mg base (CX1 P w) k f fd ps (eSp G mg n R) ∧ mg x = some (.ref f) ∧ PySem.W.keepIn K (.ref f) = true ∧ Binds K fd ps []
def rCall (R : List D → Option Str) (fs : ULf) : DS → Option Str := fun δ => match fs δ with | some ds => R ds | none => none
theorem ur_call {R : List D → Option Str} {epos : Pos} (hP : Passes (CX1 X.prog X.w) X E) (hF : FnE X.prog X.w X.K X.mg X.base G x j n R) (hr : Room k X.A) (hj : j ≤ k) (ha : UA G X (e :: es) fs B) (hl : HasLen fs n)
    (hg : L2.Gl X x := by rfl) (hdb : (x == ("__debug__" : Str)) = false := by decide) (he : starEach (e :: es) X.env = (false, eval e X.env) :: starEach es X.env := by rfl) (hpl : (backTo pos (starEach es X.env)).any (·.1) = false := by rfl)
    (hs : swapsWith (.Call (.Name x p) (e :: es) [] pos) none epos.line X.env = pure false := by rfl) : URt G X E (.Expr (.Call (.Name x p) (e :: es) [] pos) epos) (rCall R fs) := by
  obtain ⟨fa, fd, ps, hF, hm, hk, hb⟩ := hF.ex
  refine ⟨PS.weak (ps_expr (pe_call (CX := CX1 X.prog X.w) (E := E) (dvs := []) hF (hr.mono hj) hg hm hk hb .nil hP ha.pa hdb he hpl) hs) fun D σ H ⟨He, S0, P, own, δ, y, ok, hR, kk⟩ => ?_⟩
  unfold rCall at hR
  split at hR
  · rename_i ds h1
    refine ⟨He, S0, P, own, δ, ds, ok, h1, fun vs H1 k1 r1 => ?_⟩
    show eSp G X.mg n R (vs ++ []) H1 _ E
    rw [List.append_nil]
    exact ⟨AvB S0 own B, ds, y, by rw [r1.length]; exact hl δ ds h1, fun a z => (ok.keep k1).avSome z, (ok.keep k1).tab.keep (ok.keep k1).kp, r1, hR, fun H' k' => kk H' (ok.kp.trans (k1.trans k'))⟩
  · cases hR
end
theorem fnE {P : Program} {w : World} {G : GG} {mg : Str → Option Value} {base : Heap} {x : Str} {st : Stmt} {N ps : List Str} {k n : Nat} {R : List D → Option Str} {R' : DS → Option Str} (dd : Def1 G.K mg x st ps) (S : FnScope N ps (defScope st)) (hn : ps.length = n)
    (body : ∀ (f : Addr) (cdv : Value) (A : Around) (outer : List Env) (s : Shared) (H : Hp) (E : XK), Room k (A.deeper (PyProof.Rows.envOfC x (defScope st) s.heap.objs.size f cdv)) →
      URs G (cxOf (CX1 P w) P w G.K mg base N x (defScope st) f cdv A outer s H E) E (defBody st) R')
    (pure : ∀ ds, R ds = R' (startD N.length ds)) : FnE P w G.K mg base G x (k + 1) n R := by
  obtain ⟨f, fd, FF, hm, hb⟩ := dd.ex
  refine ⟨f, fd, ps, ?_, hm, FF.kp, hb⟩
  obtain ⟨oc, od, kV, doc, pm, an, cdv, ct, osl, rfl, lk, hcd⟩ := id FF.ex
  refine fn_of lk hcd S (fun vs H Q E ⟨S0, ds, y, hl, _⟩ => by rw [hl, hn]) fun A outer s H vs Q E hr ⟨S0, ds, y, hl, hs, ht, rv, hR, q⟩ => ⟨_, (body f cdv A outer s H E hr).ps, ?_⟩
  rw [pure] at hR
  exact ⟨H, S0, [], _, _, y, start_ok hs ht rv, hR, q⟩
end U
end
section
set_option Elab.async false
set_option linter.all false
set_option maxRecDepth 100000
set_option maxHeartbeats 1000000
/-! Exceptions caught. -/
namespace U
open PySem PySem.Spec L2 PyProof.Rows
theorem obj_has {P : Program} {w : World} {H : Hp} {h : Heap} {a : Addr} {o : HO} (x : ObjOk P w H h a o) : ∃ u, h.get? a = some u := by
  cases o with
  | lst xs => obtain ⟨_, _, _, _, e⟩ := x; exact ⟨_, e⟩
  | tup xs => obtain ⟨_, _, _, o, e, _⟩ := x; exact ⟨_, e⟩
  | dK kvs => obtain ⟨_, _, _, _, o, _, _, e, _⟩ := x; exact ⟨_, e⟩
  | dT kvs => obtain ⟨_, _, _, _, o, _, _, e, _⟩ := x; exact ⟨_, e⟩
  | set S n => obtain ⟨o, _, _, _, e, _⟩ := x; exact ⟨_, e⟩
  | ins C dx fs => obtain ⟨_, _, _, e, _⟩ := x; exact ⟨_, e⟩
  | own y => exact x
  | xd fs => obtain ⟨_, ⟨_, _, _, e, _⟩, _⟩ := x; exact ⟨_, e⟩
  | rng lo hi => obtain ⟨_, _, _, e⟩ := x; exact ⟨_, e⟩
  | frz ob u => obtain ⟨e, _⟩ := x; exact ⟨_, e⟩
  | tb g ps => exact ⟨_, (show h.get? a = some _ from x)⟩
  | met f y => exact ⟨_, (show h.get? a = some _ from x)⟩
  | ext φ => obtain ⟨_, e, _⟩ := x; exact e
/-- a body of a def, none of its names others' -/
structure Plain (X : Cx) : Prop where
  stk : X.stack = X.env :: X.outer
  frm : X.env.frame = some X.env.locals
  fn : ∀ x, X.fn x = true
  ex : X.ex = []
section
variable {X : Cx} {pins : List (Addr × Obj)} {σ : L2.St} {H H' : Hp} {s1 s2 : Shared} {cls a0 : Value} {ea : Addr} {B h3 : Heap}
theorem inv_fly (pl : Plain X) (I : Inv X pins σ H s1) (os : s2.os = s1.os) (bare : AllBare s2.gens) (un1 : Un (frs X.stack) [] H H' s1.heap s2.heap) (hok : ∀ h : Heap, B.StaysIn h → HOk X.prog X.w H' h) (hfl : B.StaysIn s2.heap)
    (inB : ∀ b o, s1.heap.get? b = some o → b ∉ frs X.stack → ∃ o', B.get? b = some o') (h3B : B.StaysIn h3) (hup : s2.heap.UpToSlots h3) : Inv X pins σ H' { s2 with heap := h3 } := by
  have J : Inv X pins σ H' s2 := I.call' os un1 (hok _ hfl) bare fun b z => absurd z (by simp)
  have st : s2.heap.FunFrames X.base X.stack := J.stack
  have noF : ∀ b o, s1.heap.get? b = some o → b ≠ X.env.locals → b ∉ X.fs → b ∉ frs X.stack := fun b o e h1 h2 hm => by
    rcases List.mem_cons.mp (I.stkSub b hm) with z | z
    · exact h1 z
    · exact h2 z
  have same : ∀ b o, s1.heap.get? b = some o → b ≠ X.env.locals → b ∉ X.fs → ∀ o2, s2.heap.get? b = some o2 → h3.get? b = some o2 := fun b o e h1 h2 o2 e2 => by
    obtain ⟨o', e'⟩ := inB b o e (noF b o e h1 h2)
    have := hfl b o' e'
    rw [e2] at this
    cases this
    exact h3B b o2 e'
  have exn : ∀ b : Addr, b ∉ X.ex := fun b z => by rw [pl.ex] at z; cases z
  have s0l : ∀ b o, X.s_0.heap.get? b = some o → b ≠ X.env.locals := fun b o e z => by
    have h1 := Heap.lt_size e
    have h2 := I.ok.above
    rw [z] at h1
    exact absurd (Nat.lt_of_lt_of_le h1 h2) (Nat.lt_irrefl _)
  have cellF : ∀ x c, X.env.cells.lookup x = some c → c ≠ X.env.locals ∧ c ∉ X.fs := fun x c e => ⟨I.cne x c e, fun hm => by
    obtain ⟨_, o, ho, _⟩ := I.ok.funs.mem hm
    have h1 := Heap.lt_size ho
    have h2 := I.ok.cab x c (pl.fn x) e
    exact absurd (Nat.lt_of_lt_of_le h1 h2) (Nat.lt_irrefl _)⟩
  have cellK : ∀ x c v, X.env.cells.lookup x = some c → s2.heap.IsCell c v → h3.IsCell c v := fun x c v e ⟨o, e1, e2⟩ => by
    obtain ⟨v1, o1, e3, _⟩ := I.cell x c e
    exact ⟨o, same c o1 e3 (cellF x c e).1 (cellF x c e).2 o e1, e2⟩
  have jb : Un X.fs X.ex X.H_0 H' X.s_0.heap s2.heap := J.base
  have ib : Un X.fs X.ex X.H_0 H X.s_0.heap s1.heap := I.base
  have ub : Un X.fs X.ex X.H_0 H' X.s_0.heap h3 := by
    rw [pl.ex] at jb ib ⊢
    refine un_fly jb (fun b o o1 e hb e1 => ?_) fun b hb o1 e1 => ?_
    · obtain ⟨o2, e2⟩ := ib.there b o e (by simp)
      exact same b o2 e2 (s0l b o e) hb o1 e1
    · have hd : ∀ vs, o1.data ≠ .fields vs := by
        obtain ⟨_, o, ho, hd⟩ := J.funs.mem hb
        rw [e1] at ho; cases ho; exact hd
      exact hup b o1 e1 hd
  refine ⟨J.ok, J.os, J.bare, ub, ?_, fun x c e => ?_, J.free, J.freeC, fun p hp => ?_, hok _ h3B, J.len⟩
  · obtain ⟨m, hn, hl⟩ := J.loc
    refine ⟨m, hup.ns hn, fun i x v h1 h2 h3 => ?_⟩
    obtain ⟨u, r, l⟩ := hl i x v h1 h2 h3
    refine ⟨u, r, ?_⟩
    rcases l with l | ⟨hk, c, hc, hcell⟩
    · exact .inl l
    · exact .inr ⟨hk, c, hc, cellK x c _ hc hcell⟩
  · obtain ⟨v, hv⟩ := J.cell x c e
    exact ⟨v, cellK x c v e hv⟩
  · obtain ⟨e1, n1, l1, f1, d1⟩ := J.pin p hp
    obtain ⟨e0, _, _, _, _⟩ := I.pin p hp
    exact ⟨same p.1 p.2 e0 l1 f1 p.2 e1, n1, l1, f1, d1⟩
/-- within an except suite -/
abbrev sui (X : Cx) (ea : Addr) : Cx := { X with A := X.A.mark (some (.ref ea)), calm := false }
theorem inv_sui (I : Inv X pins σ H s1) : Inv (sui X ea) pins σ H s1 :=
  ⟨⟨I.ok.mod, I.ok.kind, I.ok.glob, I.ok.blt, I.ok.above, I.ok.inj, I.ok.has, I.ok.cab, fun z => (Bool.noConfusion z), I.ok.frames, I.ok.stk, I.ok.exf, I.ok.bs, I.ok.bsz, I.ok.noex, I.ok.exfs, I.ok.funs, I.ok.frf⟩, I.os, I.bare, I.base, I.loc, I.cell, I.free, I.freeC, I.pin, I.hok, I.len⟩
theorem inv_unsui (I : Inv (sui X ea) pins σ H s1) (hd : X.calm = true → X.A.handled = none) : Inv X pins σ H s1 :=
  ⟨⟨I.ok.mod, I.ok.kind, I.ok.glob, I.ok.blt, I.ok.above, I.ok.inj, I.ok.has, I.ok.cab, hd, I.ok.frames, I.ok.stk, I.ok.exf, I.ok.bs, I.ok.bsz, I.ok.noex, I.ok.exfs, I.ok.funs, I.ok.frf⟩, I.os, I.bare, I.base, I.loc, I.cell, I.free, I.freeC, I.pin, I.hok, I.len⟩
end
/-- an own class under another one, as except sees it -/
structure ExcUp (K : PySem.W.Frag) (mg : Str → Option Value) (x y : Str) : Prop where
  ex : ∃ C D, mg x = some (.ref C) ∧ mg y = some (.ref D) ∧ PySem.W.exmOne K (.ref C) (.ref D) = some true
section
variable {G : GG} {X : Cx} {e : Expr} {es : List Expr} {fs : ULf} {B : List Nat} {R : List D → Option Str} {x hn en bad : Str} {k j n i : Nat} {p cp ep hp ip np bp icp rp hpos tpos : Pos}
end
end U
end
section
set_option Elab.async false
set_option linter.all false
set_option maxRecDepth 100000
set_option maxHeartbeats 1000000
/-! Two lists of ints, as long, compared by <. -/
namespace U
open PySem PySem.Spec L2 PyProof.Rows PySem.SeqAt
open PySem.AutoSeq1 (wpAny_loadPart')
open PySem.MeetsSeq PySem.MeetsSeq2 PySem.MeetsSeq3
section
variable {G : GG} {X : Cx} {a b : Expr} {f g : UEf} {Ba Bb : List Nat} {pos : Pos} {k : Nat}
end
end U
end
section
set_option Elab.async false
set_option linter.all false
set_option maxRecDepth 100000
set_option maxHeartbeats 1000000
/-! x[j], x[k] = a, b -/
namespace U
open PySem PySem.Spec L2 PyProof.Rows
section
variable {G : GG} {X : Cx} {a b : Expr} {f g : UEf} {Ba Bb : List Nat} {pos : Pos}
end
end U
end
section
set_option Elab.async false
set_option linter.all false
set_option maxRecDepth 100000
set_option maxHeartbeats 3200000
/-! A set of at most four whole numbers of any size. -/
namespace U.Bg
open PySem PySem.Spec L2 PyProof.Rows PySem.W
/-! ### a table of eight: every search reaches every place -/
/-! ### the set -/
def kv (e : Int × Value) : Int := match e.2 with | .int k _ => k | _ => 0
def Elem (e : Int × Value) : Prop := e.1 = hashInt (kv e) ∧ ∃ t : Tok, e.2 = .int (kv e) t
structure SetIs (w : World) (o : Obj) (es : Array (Int × Value)) (ep : Nat) (t : SetTable) : Prop where
  eq : o = { cls := .type "set", dict := none, data := .set es ep t }
  tok : TOk (ledOf w) t es.size
  m7 : t.mask = 7
  few : es.size ≤ 4
  small : ∀ e ∈ es.toList, Elem e
  nodup : (es.toList.map kv).Nodup
section
variable {prog : Program} {w : World} {A : Around} {E : Value → Shared → Prop} {s : Shared} {a : Addr}
end
section
variable {prog : Program} {w : World} {A : Around} {E : Value → Shared → Prop} {s : Shared}
end
section
variable {prog : Program} {w : World} {A : Around} {E : Value → Shared → Prop} {s : Shared} {a I : Addr} {es : Array (Int × Value)} {ep : Nat} {t : SetTable}
def SetAt (w : World) (h : Heap) (a : Addr) (es : Array (Int × Value)) (ep : Nat) (t : SetTable) : Prop := ∃ o, h.get? a = some o ∧ SetIs w o es ep t
theorem SetAt.typeIs (x : SetAt w s.heap a es ep t) : s.TypeIs (.ref a) "set" := let ⟨o, ho, S⟩ := x; ⟨o, ho, by rw [S.eq]⟩
end
section
variable {prog : Program} {w : World} {A : Around} {E : Value → Shared → Prop} {s : Shared} {a I : Addr} {es : Array (Int × Value)} {ep : Nat} {t : SetTable}
end
section
variable {X : Cx}
end
section
variable {G : GG} {X : Cx} {e : Expr} {fs : ULf} {B : List Nat} {pos p p1 p2 : Pos}
end
end U.Bg
end
section
set_option Elab.async false
set_option linter.all false
set_option maxRecDepth 100000
set_option maxHeartbeats 1000000
/-! sum(self.f[x] for x in e): numbers of a list of the object's, by their places. -/
namespace U
open PySem PySem.Spec L2
end U
end
section
set_option Elab.async false
set_option linter.all false
set_option maxRecDepth 100000
set_option maxHeartbeats 1000000
/-! Expressions that change what a name holds alone. -/
namespace U
open PySem PySem.Spec PyProof.Rows L2
abbrev UQf := DS → Option (DS × D)
def tUQ (G : GG) (f : UQf) : TE := fun σ H Q => ∃ He S0 P own δ δ' d, OK G He H S0 P own σ δ ∧ f δ = some (δ', d) ∧ ∀ v H' own', OK G He H' S0 P own' σ δ' → Rep G H' (Av S0 own') v d → Q v H'
/-- an expression that may change what names hold alone; its value is none of these -/
structure UQe (G : GG) (X : Cx) (e : Expr) (f : UQf) : Prop where
  pe : PE X e (tUQ G f)
def tUQA (G : GG) (f : DS → Option (DS × List D)) : TA := fun σ H Q => ∃ He S0 P own δ δ' ds, OK G He H S0 P own σ δ ∧ f δ = some (δ', ds) ∧ ∀ vs H' own', OK G He H' S0 P own' σ δ' → Reps G H' (Av S0 own') vs ds → Q vs H'
structure UQa (G : GG) (X : Cx) (es : List Expr) (f : DS → Option (DS × List D)) : Prop where
  pa : PA X es (tUQA G f)
def tUQT (G : GG) (f : DS → Option (DS × Bool)) : TT := fun σ H Q => ∃ He S0 P own δ δ' b, OK G He H S0 P own σ δ ∧ f δ = some (δ', b) ∧ ∀ H' own', OK G He H' S0 P own' σ δ' → Q b H'
structure UQt (G : GG) (X : Cx) (e : Expr) (f : DS → Option (DS × Bool)) : Prop where
  pt : PT X e (tUQT G f)
structure UQw (G : GG) (X : Cx) (e : Expr) (f : DS → Option (DS × Bool)) : Prop where
  pw : PW X e (tUQT G f)
section
variable {G : GG} {X : Cx} {a b c e o : Expr} {es rest : List Expr} {f g h : UQf} {fe : UEf} {fs : ULf} {ga : DS → Option (DS × List D)} {ta tb : DS → Option (DS × Bool)} {tc : UTf} {B : List Nat} {pos p px apos cpos spos : Pos} {x : Str} {k j n ci i : Nat} {F : MF}
end
/-! ### a method's new list -/
section
variable {G : GG} {X : Cx} {a b c e o : Expr} {es : List Expr} {f : UEf} {fs : ULf} {Ba B : List Nat} {pos p px apos : Pos} {k j n ci i : Nat} {F : List D → Option SV}
end
end U
end
section
set_option Elab.async false
set_option linter.all false
set_option maxRecDepth 100000
set_option maxHeartbeats 1000000
/-! A list of lists that a name holds alone. -/
namespace U
open PySem PySem.Spec PyProof.Rows L2
theorem FldsOk.nil {G : GG} {H : Hp} {S O : Addr → Prop} : FldsOk G H S O [] [] := ⟨rfl, fun j v d a => by simp at a⟩
theorem FldsOk.cons {G : GG} {H : Hp} {S O : Addr → Prop} {v : V} {d : D} {vs : List V} {ds : List D} (f : FldOk G H S O v d) (h : FldsOk G H S O vs ds) : FldsOk G H S O (v :: vs) (d :: ds) := ⟨by simp [h.1], fun j w e a b => by
  cases j with
  | zero => cases a; cases b; exact f
  | succ j => exact h.2 j w e (by simpa using a) (by simpa using b)⟩
theorem OneRef.cons {v : V} {vs : List V} (h : OneRef vs) (hv : ∀ l, v = .ref l → V.ref l ∉ vs) : OneRef (v :: vs) := fun j k l a b => by
  cases j with
  | zero =>
    cases k with
    | zero => rfl
    | succ k => cases a; exact absurd (List.mem_of_getElem? (by simpa using b)) (hv l rfl)
  | succ j =>
    cases k with
    | zero => cases b; exact absurd (List.mem_of_getElem? (by simpa using a)) (hv l rfl)
    | succ k => rw [h j k l (by simpa using a) (by simpa using b)]
def tUD (G : GG) (f : ULf) : TA := fun σ H Q => ∃ He S0 P own δ ds, OK G He H S0 P own σ δ ∧ f δ = some ds ∧ ∀ (N : Addr → Prop) vs H', Keep H H' → (∀ b, N b → H b = none ∧ ∃ zs, H' b = some (.lst zs)) → (∀ S, FldsOk G H' S N vs ds) → OneRef vs → (∀ l, V.ref l ∈ vs → N l) → Q vs H'
/-- flat things and new lists -/
structure UDa (G : GG) (X : Cx) (es : List Expr) (f : ULf) : Prop where
  pa : PA X es (tUD G f)
section
variable {G : GG} {X : Cx} {a b c e o : Expr} {es rest : List Expr} {f g : UEf} {fs gs : ULf} {B Ba Bb : List Nat} {pos p px apos cpos spos : Pos} {x : Str} {k j n ci i : Nat}
end
/-! ### a name forgotten, what it held alone still its own -/
section
variable {G : GG} {He H : Hp} {S0 : Addr → Prop} {P : List (V × D)} {own : Nat → Addr → Prop} {σ : L2.St} {δ : DS}
theorem OK.forget (ok : OK G He H S0 P own σ δ) (i : Nat) : OK G He H S0 P own σ (δ.set i none) where
  len := by rw [List.length_set]; exact ok.len
  kp := ok.kp
  tab := ok.tab
  s0 := ok.s0
  ns := ok.ns
  val := fun j s e => by
    by_cases hj : i = j
    · subst hj
      rw [List.getElem?_set, if_pos rfl] at e
      split at e <;> cases e
    · rw [List.getElem?_set_ne hj] at e
      exact ok.val j s e
  ow := ok.ow
  inj := ok.inj
  pin := ok.pin
theorem OK.sigma (ok : OK G He H S0 P own σ δ) {j : Nat} {o : Option V} (hn : ∀ s, δ[j]? ≠ some (some s)) : OK G He H S0 P own (σ.set j o) δ where
  len := by rw [List.length_set]; exact ok.len
  kp := ok.kp
  tab := ok.tab
  s0 := ok.s0
  ns := ok.ns
  val := fun i s e => by
    have hij : j ≠ i := fun z => hn s (by rw [z]; exact e)
    rw [List.getElem?_set_ne hij]
    exact ok.val i s e
  ow := ok.ow
  inj := ok.inj
  pin := ok.pin
end
/-! ### for x in (y[..], y[..], y[..]): x.append(n) -/
section
variable {G : GG} {X : Cx} {a b c e o : Expr} {es rest : List Expr} {x y : Str} {k j n i : Nat} {ks : List Int} {z : Int}
end
end U
end
section
set_option Elab.async false
set_option linter.all false
set_option maxRecDepth 100000
set_option maxHeartbeats 1000000
/-! Exceptions caught, in general; methods that raise. -/
namespace U
open PySem PySem.Spec L2 PyProof.Rows
section
variable {X : Cx} {pins : List (Addr × Obj)} {σ : L2.St} {H H' H1 : Hp} {s1 s2 : Shared} {ea C Dh : Addr} {D : Ends}
/-- a name goes, the others stay -/
theorem inv_goes {i : Nat} {en : Str} {h' : Heap} {m : Str → Option Value} {v : Option Value} {t : Nat} (I : Inv X pins σ H s1) (hN : X.N.Nodup) (hi : X.N[i]? = some en)
    (hl : ∀ (i : Nat) (x : Str) (v : V), X.N[i]? = some x → σ[i]? = some (some v) → Vis X.env.scope x → ∃ u, RelV v u ∧ Look X.env s1.heap m x u)
    (hn : h'.Ns X.env.locals (fun x => if x = en then v else m x)) (hs : Heap.SameBut X.env.locals s1.heap h') : Inv X pins (σ.set i none) H { s1 with heap := h', toks := t } := by
  have s0l : ∀ b o, X.s_0.heap.get? b = some o → b ≠ X.env.locals := fun b o e z => by
    have h1 := Heap.lt_size e
    have h2 := I.ok.above
    rw [z] at h1
    exact absurd (Nat.lt_of_lt_of_le h1 h2) (Nat.lt_irrefl _)
  have u : Un X.fs X.ex X.H_0 H X.s_0.heap s1.heap := I.base
  refine ⟨I.ok, I.os, I.bare, ⟨fun b o e n hb hx => ?_, fun b o e n hb hx => ?_, u.free, fun b o e hx => ?_, u.tups, u.frzs, u.tbls⟩, ⟨_, hn, fun j x w h1 h2 h3 => ?_⟩, fun x c e => ?_, I.free, I.freeC, fun p hp => ?_, ?_, by rw [List.length_set]; exact I.len⟩
  · exact (hs.2 b (s0l b o e)).trans (u.keep b o e n hb hx)
  · obtain ⟨sl, e1⟩ := u.slot b o e n hb hx
    exact ⟨sl, (hs.2 b (s0l b o e)).trans e1⟩
  · obtain ⟨o1, e1⟩ := u.there b o e hx
    exact ⟨o1, (hs.2 b (s0l b o e)).trans e1⟩
  · have hij : i ≠ j := fun z => by
      subst z
      rw [List.getElem?_set, if_pos rfl] at h2
      split at h2 <;> cases h2
    rw [List.getElem?_set_ne hij] at h2
    have hne : x ≠ en := fun z => by
      subst z
      exact hij ((List.getElem?_inj (List.getElem?_eq_some_iff.mp hi).1 hN).mp (hi.trans h1.symm))
    obtain ⟨w', r, l⟩ := hl j x w h1 h2 h3
    refine ⟨w', r, ?_⟩
    rcases l with ⟨ha, hb⟩ | ⟨hk, c, hc, hcell⟩
    · exact .inl ⟨ha, by show (if x = en then v else m x) = _; rw [if_neg hne]; exact hb⟩
    · exact .inr ⟨hk, c, hc, hcell.sameBut hs (I.cne x c hc)⟩
  · obtain ⟨v, hv⟩ := I.cell x c e
    exact ⟨v, hv.sameBut hs (I.cne x c e)⟩
  · obtain ⟨e1, n1, l1, f1, d1⟩ := I.pin p hp
    exact ⟨(hs.2 p.1 l1).trans e1, n1, l1, f1, d1⟩
  · exact hok_tr I.hok fun b u hb e => (hs.2 b fun z => hb (by rw [z]; exact I.free)).trans e
/-- what is wanted behind the suite, by what is wanted behind the try -/
abbrev behind (i : Nat) (D : Ends) : Ends := { nx := fun σ H => D.nx (σ.set i none) H, rt := D.rt, bk := fun σ H => D.bk (σ.set i none) H, ct := fun σ H => D.ct (σ.set i none) H }
theorem catch_as {i : Nat} {en hn : Str} {hp hpos : Pos} {b0 : Stmt} {body : List Stmt} (pl : Plain X) (hx0 : ∀ e s, ¬ X.xe e s) (I1 : Inv X pins σ H1 s1) (fly : Fly X.prog X.w X.stack H1 s1 (.ref C) H' ea s2) (hmh : X.mg hn = some (.ref Dh)) (hxm : PySem.W.exmOne X.K (.ref C) (.ref Dh) = some true) (hN : X.N.Nodup)
    (suite : ∀ s5 ob ws, Inv (sui X ea) ((ea, ob) :: pins) (σ.set i (some (.ref ea))) H' s5 → ob.cls = .ref C → ob.data = .fields ws → wpAny (model X.prog X.w) (X.A.mark (some (.ref ea))) (execs (b0 :: body) X.env) (SP (sui X ea) ((ea, ob) :: pins) (behind i D)) X.xe s5)
    (hi : X.N[i]? = some en) (hloc : X.env.scope.names.lookup en = some .local) (hgh : L2.Gl X hn) (hdh : (hn == ("__debug__" : Str)) = false) :
    wpAny (model X.prog X.w) X.A (noteFrame (.ref ea) X.env) (fun _ s2 => wpAny (model X.prog X.w) X.A (setFlight (.ref ea) none) (fun _ s3 => wpAny (model X.prog X.w) X.A (handleBy (.ref ea) X.env [.ExceptHandler (some (.Name hn hp)) (some en) (b0 :: body) hpos]) (SP X pins D) X.xe s3) X.xe s2) X.xe s2 := by
  obtain ⟨os, bare, un1, a0, B0, hok, hfl, inB⟩ := fly
  have hfl' : Heap.FlyingW B0 (X.env :: X.outer) ea (.ref C) a0 s2.heap := by rw [← pl.stk]; exact hfl
  have hfrm : X.A.frames = some (X.env :: X.outer) := by rw [← pl.stk]; exact I1.ok.frames
  refine wpAny_looks_onW hfrm pl.frm hfl' fun h2 hheld hup2 => ?_
  refine wpAny_landsW hheld fun h3 hfl3 hup3 => ?_
  have J3 : Inv X pins σ H' { s2 with heap := h3 } := inv_fly pl I1 os bare un1 hok hfl.1 inB hfl3.1 (hup2.trans hup3)
  refine wpAny_handleBy_cons (codeAny_handlers_test ?_) (by intro q; cases q)
  have J3' := inv_sui (ea := ea) J3
  refine ld_glob (X := sui X ea) J3' hgh hmh ?_ hdh
  have LT : PySem.W.Looks (model X.prog X.w) h3 (typeOf (.ref ea)) (.ref C) := by
    obtain ⟨ob, hob, hc⟩ := hfl3.there
    rw [← hc]
    exact (PySem.W.Looks.ld hob).andThen .now
  have LM := PySem.W.exm_one (M := model X.prog X.w) J3.kIn LT hxm
  obtain ⟨hp2, g2, d2, t2, o2⟩ := s2
  refine LM.at ?_
  (refine codeAny_handlers_suite_as ?_)
  refine lands_againW hfl3 fun h4 hfl4 hup4 => ?_
  have J4 := inv_fly pl I1 os bare un1 hok hfl.1 inB hfl4.1 ((hup2.trans hup3).trans hup4)
  obtain ⟨ob, ws, hob, hoc, hod, _⟩ := hfl4.first
  have hea : H' ea = none := by
    cases q : H' ea with
    | none => rfl
    | some o =>
      obtain ⟨z, hz⟩ := obj_has (hok B0 (fun b o e => e) ea o q)
      rw [hfl4.2.1] at hz; cases hz
  have hnf : ea ∉ frs X.stack := fun hm => by
    obtain ⟨_, o, ho, hd⟩ := J4.stack.mem hm
    have ho : h4.get? ea = some o := ho
    rw [hob] at ho; cases ho
    exact hd _ hod
  have hsub : ∀ b, b = X.env.locals ∨ b ∈ X.fs → b ∈ frs X.stack := fun b hb => by
    rw [pl.stk]
    unfold frs
    rw [List.filterMap_cons, pl.frm]
    rcases hb with rfl | hb
    · exact List.mem_cons_self
    · exact List.mem_cons_of_mem _ hb
  have J5 : Inv X ((ea, ob) :: pins) σ H' _ := J4.pins_of fun p hp => by
    rcases List.mem_cons.mp hp with rfl | hp
    · exact ⟨hob, hea, fun z => hnf (hsub ea (.inl z)), fun z => hnf (hsub ea (.inr z)), fun v z => by rw [hod] at z; cases z⟩
    · exact J4.pin p (List.mem_append_right _ hp)
  refine store_ok J5 hN hi (.inl hloc) (v := .ref ea) rfl (fun s5 J6 => ?_) (.inr hloc)
  refine wpAny_mono (suite s5 ob ws (inv_sui J6) hoc hod) (fun f s7 q => ?_) fun e0 s0 z => (hx0 _ _ z).elim
  have goes : ∀ {σ' : L2.St} {H7 : Hp} {Q : Unit → Shared → Prop}, Inv (sui X ea) ((ea, ob) :: pins) σ' H7 s7 → (∀ s8, Inv X pins (σ'.set i none) H7 s8 → Q () s8) → wpAny (model X.prog X.w) X.A (do bindName X.env en .none; unbindBehindTheSuite X.env en hpos) Q X.xe s7 := fun {σ' H7 Q} J7 hq => by
    have J8 : Inv X ((ea, ob) :: pins) σ' H7 s7 := inv_unsui J7 I1.ok.hd
    obtain ⟨m8, hn8, hl8⟩ := J8.loc
    refine wpAny_nameGoes_keeps hloc hn8 (by rw [I1.ok.kind]; rfl) fun h9 v9 hn9 hs9 => hq _ ?_
    have J9 := inv_goes (t := s7.toks + 1) J8 hN hi hl8 hn9 hs9
    exact J9.pins_of fun p hp => J9.pin p (List.mem_append_right _ (List.mem_cons_of_mem _ hp))
  cases f with
  | next => obtain ⟨σ', H7, J7, q⟩ := q; exact goes J7 fun s8 J8 => ⟨_, H7, J8, q⟩
  | brk => obtain ⟨σ', H7, J7, q⟩ := q; exact goes J7 fun s8 J8 => ⟨_, H7, J8, q⟩
  | cont => obtain ⟨σ', H7, J7, q⟩ := q; exact goes J7 fun s8 J8 => ⟨_, H7, J8, q⟩
  | ret u => obtain ⟨v, σ', H7, J7, r7, q⟩ := q; exact goes J7 fun s8 J8 => ⟨v, _, H7, J8, r7, q⟩
end
/-! ### methods that raise -/
structure MeE (P : Program) (w : World) (K : PySem.W.Frag) (mg : Str → Option Value) (base : Heap) (G : GG) (c : Nat) (m : Str) (k n : Nat) (R : List D → Option Str) : Prop where
  cl : Cls K (G.cls c)
  nf : m ∉ G.flds c
  ex : ∃ f fd ps, Meth K (G.cls c) m f ∧ FnOk P w K mg base (CX1 P w) k f fd ps (eSp G mg n R) ∧ Binds K fd ps []
section
variable {G : GG} {X : Cx} {R : List D → Option Str} {x hn en bad m : Str} {k j n i l ci : Nat} {p px apos cp ep hp ip np bp icp rp hpos tpos : Pos}
end
end U
end
section
set_option Elab.async false
set_option linter.all false
set_option maxRecDepth 100000
set_option maxHeartbeats 1000000
/-! An object and lists, two objects, stored at once. -/
namespace U
open PySem PySem.Spec PyProof.Rows L2
section
variable {G : GG} {X : Cx} {a b c d : Expr} {fs fa fb fc f2 : ULf} {Ba Bb Bc B B2 : List Nat} {pos : Pos} {n ci c2 : Nat}
end
end U
end
section
set_option Elab.async false
set_option linter.all false
set_option maxRecDepth 100000
set_option maxHeartbeats 1000000
/-! The head, with the table of a method's code: the written part has the tables, the part that stays has none. -/
namespace U
open PySem PySem.Spec PyProof.Rows L2
def isTab (p : Addr × Obj) : Bool := (match p.2.cls with | .none => true | _ => false) && p.1 != cStatics && p.1 != mainGlobals
def dropT (K : PySem.W.Frag) : PySem.W.Frag := K.filter fun p => !isTab p
theorem mem_of_lookup {b : Addr} {o : Obj} : ∀ {l : List (Addr × Obj)}, l.lookup b = some o → (b, o) ∈ l
  | [], h => by cases h
  | (c, u) :: l, h => by
    rw [List.lookup_cons] at h
    by_cases hc : (b == c) = true
    · rw [hc] at h; cases h
      rw [eq_of_beq hc]; exact List.mem_cons_self
    · rw [Bool.eq_false_iff.mpr hc] at h
      exact List.mem_cons_of_mem _ (mem_of_lookup h)
/-- what is asked of the part that stays, by what the whole part says -/
theorem tr {α : Type} (φ : PySem.W.Frag → α) {K : PySem.W.Frag} {r : α} (h1 : φ K = r) (h2 : φ (dropT K) = φ K) : φ (dropT K) = r := h2.trans h1
end U
end
section
set_option Elab.async false
set_option linter.all false
set_option maxRecDepth 100000
set_option maxHeartbeats 1000000
/-! str of nested data with texts in it. -/
namespace U
open PySem PySem.Spec L2
section
variable {G : GG} {X : Cx} {e : Expr} {fs : ULf} {B : List Nat} {pos p : Pos} {k : Nat}
end
end U
end
section
set_option Elab.async false
set_option linter.all false
set_option maxRecDepth 100000
/-! The pure words of the defs. -/
namespace U
open PySem
def qRis : DS → D → D → Option Bool := fun _ a b => match a, b with | .int i, .int j => some (decide (i < j)) | _, _ => none
def qSt : DS → D → Option Bool := fun _ a => match a with | .int i => some (decide (1 ≤ i) && decide (i ≤ 60)) | _ => none
def c_is_number : US := (uRet (uAndV (uUn (dIsT "int") (uVar 0)) (uUn dNot (uUn (dIsT "bool") (uVar 0)))))
@[irreducible] def F_is_number : List D → Option SV := runD c_is_number 0 1
def c_is_within : US := (uRet (uAndV (uCall F_is_number (uCons (uVar 0) uNil)) (uCh (fun i j => decide (i ≤ j)) (fun i j => decide (i ≤ j)) (uVar 1) (uVar 0) (uVar 2))))
@[irreducible] def F_is_within : List D → Option SV := runD c_is_within 0 3
def c_is_ring : US := (uRet (uCall F_is_within (uCons (uVar 0) (uCons (uC (.int 1)) (uCons (uC (.int 60)) uNil)))))
@[irreducible] def F_is_ring : List D → Option SV := runD c_is_ring 0 1
def c_is_rising : US := (uRet (uGen2 (uVar 0) (uList (uCut (uVar 0) (oSome (uC (.int 1))) oNone)) qRis))
@[irreducible] def F_is_rising : List D → Option SV := runD c_is_rising 0 3
def c_is_place : US := (uRet (uCall F_is_within (uCons (uVar 1) (uCons (uC (.int 0)) (uCons (uOp dSub (uVar 0) (uC (.int 1))) uNil)))))
@[irreducible] def F_is_place : List D → Option SV := runD c_is_place 0 2
def c_check_ring : US := (uIfS (uNot (uB (uCall F_is_ring (uCons (uVar 0) uNil)))) uNever uNext)
@[irreducible] def F_check_ring : List D → Option SV := runD c_check_ring 0 1
def c_check_place : US := (uIfS (uNot (uB (uCall F_is_place (uCons (uVar 0) (uCons (uVar 1) uNil))))) uNever uNext)
@[irreducible] def F_check_place : List D → Option SV := runD c_check_place 0 2
def c_led_to : US := (uRet (uOp dMod (uOp dAdd (uVar 1) (uVar 2)) (uVar 0)))
@[irreducible] def F_led_to : List D → Option SV := runD c_led_to 0 3
def c_next_row : US := (uSeq (uSetL 4 (uSm uNil) []) (uFor (uAs (uVar 3)) [3] (gVar 5) (uFor (uAs (uVar 1)) [1] (gVar 6) (uSeq (uSet 7 (uCall F_led_to (uCons (uVar 0) (uCons (uVar 5) (uCons (uVar 6) uNil)))) ([0] ++ ([5] ++ ([6] ++ [])))) (uIfS (uB (uUn (fun x => some (.bl (dIsN x))) (uOp dIx (uVar 2) (uVar 7)))) (uSeq (uPutIx 2 (uVar 7) (uOp dAdd (uOp dIx (uVar 2) (uVar 5)) (uC (.int 1))) (([2] ++ [5]) ++ [])) (uApp 4 (uVar 7) [7])) uNext)))))
def F_next_row : List D → Option (List D × List D) := runW c_next_row 0 8 2 4
def c_fewest : US := (uSeq (uSetL 3 (uRep (uList (uSm (uCons (uC .non) uNil))) (uVar 0)) (([] ++ []) ++ [0])) (uSeq (uPutIx 3 (uVar 2) (uC (.int 0)) []) (uSeq (uSetL 4 (uSm (uCons (uVar 2) uNil)) ([2] ++ [])) (uSeq (uWhile (uTl (uVar 4)) (uCallW F_next_row 0 1 3 4 4)) (uRetV 3)))))
@[irreducible] def F_fewest : List D → Option SV := runD c_fewest 1000 5
def c_common_part : US := (uSeq (uSet 1 (uC (.int 0)) []) (uSeq (uFor (uAs (uVar 0)) [0] (gVar 2) (uSeq (uSet 3 (uVar 2) [2]) (uWhile (uB (uOp dNe (uVar 3) (uC (.int 0)))) (uPar2 1 3 (.e (uVar 3) [3]) (.e (uOp dMod (uVar 1) (uVar 3)) ([1] ++ [3])))))) (uRetV 1)))
@[irreducible] def F_common_part : List D → Option SV := runD c_common_part 1000 4
def c_is_count : US := (uRet (uCall F_is_within (uCons (uVar 1) (uCons (uC (.int 0)) (uCons (uOp dSub (uFn bLen (uCons (uVar 0) uNil)) (uC (.int 1))) uNil)))))
@[irreducible] def F_is_count : List D → Option SV := runD c_is_count 0 2
def c_Walker_move : DS → Option DS := (uMSeq (uFSet 2 0 2 (uCall F_led_to (uCons (uUn (dFld 2 0) (uVar 0)) (uCons (uUn (dFld 2 2) (uVar 0)) (uCons (uVar 1) uNil))))) (uFAug 2 0 4 (uUn (dFld 2 2) (uVar 0)) (uC (.int 1))))
@[irreducible] def F_Walker_move : MF := runM 2 2 c_Walker_move (uC .non)
theorem fl_Walker_move : ∀ ds xs ds' d, F_Walker_move ds xs = some (ds', d) → d.flat = true := by unfold F_Walker_move; exact runM_flat
def c_Walker_go : DS → Option DS := (uMSeq (uMSkip (uNot (uB (uCall F_is_count (uCons (uUn (dFld 2 1) (uVar 0)) (uCons (uVar 1) uNil)))))) (uMSeq (uMCall 2 0 F_Walker_move (uCons (uOp dIx (uUn (dFld 2 1) (uVar 0)) (uVar 1)) uNil)) (uMSeq (uFApp 2 0 3 (uVar 1)) (uMSeq (uFApp 2 0 5 (uTup (uSm (uCons (uC (.str "go")) (uCons (uVar 1) (uCons (uUn (dFld 2 2) (uVar 0)) uNil)))))) some))))
@[irreducible] def F_Walker_go : MF := runM 2 2 c_Walker_go (uUn (dFld 2 2) (uVar 0))
def c_copied : US := (uRetS (uB (uUn (dIsT "list") (uVar 0))) (uFnL bList (uCons (uVar 0) uNil)) (uVar 0))
@[irreducible] def F_copied : List D → Option SV := runD c_copied 0 1
def c_last_count : US := (uSeq (uSet 4 (uOp dSub (uOp dIx (uVar 2) (uVar 3)) (uC (.int 1))) (([2] ++ [3]) ++ [])) (uSeq (uSetL 5 (uSm (uLc (uEnum (uCons (uVar 1) uNil)) ([1] ++ []) (gTups [6, 7]) (uB (uOp dEq (uOp dIx (uVar 2) (uCall F_led_to (uCons (uVar 0) (uCons (uVar 3) (uCons (uUn dNeg (uVar 7)) uNil))))) (uVar 4))) (uVar 6) [6, 7])) (([1] ++ []) ++ [6, 7] ++ [6])) (uRet (uOp dIx (uVar 5) (uC (.int 0))))))
@[irreducible] def F_last_count : List D → Option SV := runD c_last_count 0 8
def c_way_to : US := (uSeq (uSetL 4 (uSm uNil) []) (uSeq (uWhile (uB (uOp dGt (uOp dIx (uVar 2) (uVar 3)) (uC (.int 0)))) (uSeq (uSet 5 (uCall F_last_count (uCons (uVar 0) (uCons (uVar 1) (uCons (uVar 2) (uCons (uVar 3) uNil))))) ([0] ++ ([1] ++ ([2] ++ ([3] ++ []))))) (uSeq (uApp 4 (uVar 5) [5]) (uSet 3 (uCall F_led_to (uCons (uVar 0) (uCons (uVar 3) (uCons (uUn dNeg (uOp dIx (uVar 1) (uVar 5))) uNil)))) ([0] ++ ([3] ++ (([1] ++ [5]) ++ []))))))) (uRetL (uRev (uVar 4)))))
@[irreducible] def F_way_to : List D → Option SV := runD c_way_to 1000 6
def c_heights_of : US := (uRetL (uSm (uLc (uAs (uVar 0)) [0] (gVar 1) uYes (uIf (uB (uUn (fun x => some (.bl (dIsN x))) (uVar 1))) (uC (.int 0)) (uVar 1)) [1])))
@[irreducible] def F_heights_of : List D → Option SV := runD c_heights_of 0 2
end U
end
section
set_option Elab.async false
set_option linter.all false
set_option maxRecDepth 100000
set_option maxHeartbeats 1000000
/-! Lambdas without captured names: made, called. -/
namespace U
open PySem PySem.Spec PyProof.Rows L2
abbrev lamO (q : Str) (params : Arguments) (body : Expr) (scope : Scope) (pm : Value) (c : Addr) (ctv : Value) : Obj := PySem.W.kla_obj "<lambda>" q params body scope [] pm c ctv
theorem codeHd_of {h : Heap} {c P : Addr} (x : CodeAt h c P) : PySem.W.CodeHd h c P := by
  obtain ⟨⟨o, vs, file, tf, flags, tg, inF, text, tt, e1, e2, e3, e4, e5, e6, e7, e8, e9⟩, ne⟩ := x
  exact ⟨o, vs, file, tf, flags, tg, inF, text, tt, e1, e2, e3, e5, e4, e6, e7, e8, e9, ne⟩
section
variable {X : Cx} {pins : List (Addr × Obj)} {σ : L2.St} {H : Hp} {s : Shared} {a : Addr} {o : Obj}
/-- an object that is there is tracked from here on -/
theorem inv_track (I : Inv X pins σ H s) (ho : s.heap.get? a = some o) (hf : FpOk X pins H a) : Inv X pins σ (upd H a (.frz o (.own a))) s := by
  obtain ⟨hn, hL, hfs, h1, h2, h3⟩ := hf
  have ne : ∀ b u, H b = some u → b ≠ a := fun b u e z => by rw [z, hn] at e; cases e
  have J : Inv X pins σ (upd H a (.frz o (.own a))) { s with heap := s.heap, gens := s.gens, drawn := s.drawn, toks := s.toks } := by
    refine I.step (ch := [a]) (fun b hb => ?_) (fun b o _ _ _ e _ => e) (fun b o _ _ _ e _ => ⟨o.slots, e⟩) (fun b u hc e n => ?_) (fun b o _ e => ⟨o, e⟩) (fun b xs e => by rw [upd_ne (ne b _ e)]; exact e) (fun b o u e => by rw [upd_ne (ne b _ e)]; exact e) (fun b _ ps e => ⟨#[], by rw [upd_ne (ne b _ e), e]; simp⟩) (fun m hm => hm) (fun b u e => ?_) I.bare
    · (rw [List.mem_singleton.mp hb])
      exact ⟨h1, hL, h2, h3⟩
    · rw [upd_ne (fun z => hc (by rw [z]; exact List.mem_singleton.mpr rfl))]; exact n
    · by_cases hb : b = a
      · subst hb
        rw [upd_same] at e; cases e
        exact ⟨ho, o, ho⟩
      · rw [upd_ne hb] at e
        exact (I.hok b u e).stay (fun c v _ q => q) (fun c q => by rw [upd_ne (ne c _ q)]; exact q) fun c xs q => by rw [upd_ne (ne c _ q)]; exact q
  exact J
end
theorem triples_snoc {tl : List Value} {a b : Nat} {c : Value} (h : TriplesOk tl) : TriplesOk (tl ++ [rawInt a, rawInt b, c]) := by
  fun_induction TriplesOk tl with
  | case1 => simp [rawInt, TriplesOk]
  | case2 i t j u v rest ih => exact ih h
  | case3 => exact False.elim h
theorem among_snoc {tl : List Value} {pos : Pos} {a b : Nat} {c cv : Value} (h : TriplesOk tl) (e : codeAmong pos (tl ++ [rawInt a, rawInt b, c]) = some cv) : codeAmong pos tl = some cv ∨ cv = c := by
  fun_induction TriplesOk tl with
  | case1 =>
    right
    simp only [List.nil_append, rawInt, codeAmong] at e
    split at e
    · cases e; rfl
    · cases e
  | case2 i t j u v rest ih =>
    simp only [List.cons_append, codeAmong] at e ⊢
    split at e
    · rename_i hc
      rw [if_pos hc]; exact .inl e
    · rename_i hc
      rw [if_neg hc]; exact ih h e
  | case3 => exact False.elim h
def tLam (P : Addr) (q : Str) (params : Arguments) (body : Expr) (scope : Scope) : TE := fun _ H Q => ∃ ps, H P = some (LTb q ps) ∧ LamT H q ps ∧
  ∀ f c' ctv pm H', Keep H H' → H f = none → H' f = some (.frz (lamO q params body scope pm c' ctv) (.own f)) → CdOk H' q c' → Q (.ref f) H'
theorem pe_lam {X : Cx} {c P bm : Addr} {ob : Obj} {q : Str} {params : Arguments} {body : Expr} {scope : Scope} {pos : Pos} (hcode : X.env.code = .ref c) (hC : CodeAt X.base c P) (hB : PyProof.Rows.BMod X.base mainGlobals X.mg bm ob) (hq : X.env.qual ++ "<lambda>" = q := by rfl) (hge : X.env.globals = mainGlobals := by rfl)
    (hdef : defaultsOf params X.env = ([], []) := by rfl) (hcl : closureFor scope X.env = pure [] := by rfl) : PE X (.Lambda params body scope pos) (tLam P q params body scope) := by
  intro pins s σ H Q I ⟨ps, hP, hL, k⟩
  refine PySem.W.kla_eval hdef ?_
  rw [hq]
  have hPo : s.heap.get? P = some (PySem.W.tabObj ps) := I.hok P _ hP
  have C : PySem.W.CodeHd s.heap c P := (codeHd_of hC).keeps I.bk
  have hns : s.heap.Ns mainGlobals X.mg := I.mod.glob.keeps I.bk
  have hbP : bm ≠ P := fun z => by
    have := (I.bs _ _ hB.obj).2
    rw [z, hP] at this; cases this
  have hbG : bm ≠ mainGlobals := fun z => by
    obtain ⟨o, es, ep, e, hd, _⟩ := hB.ns
    have h2 := hB.obj
    rw [z, e] at h2
    have h3 := hB.data
    rw [← Option.some.inj h2, hd] at h3; cases h3
  have hgP : mainGlobals ≠ P := fun z => by
    obtain ⟨o, es, ep, e, hd, _⟩ := hns
    rw [z, hPo] at e; cases e; cases hd
  have hbu : s.heap.BuiltinsAt X.mg P := ⟨bm, ob, hB.name, hB.ne, hbG, hbP, I.bk _ _ hB.obj, hB.cls, hB.dict, hB.data⟩
  cases hf : codeAmong pos ps.toList with
  | none =>
    refine PySem.W.kla_makeFunction hcl hge hns hcode C hPo hL.1 hf hgP hbu fun c' ctv h' tk hx hge' hlt hrec htb => ?_
    obtain ⟨c2, oc, vs, t, e2, hoc, hd, hv⟩ := hrec
    cases e2
    have hfr : (PySem.W.kla_obj "<lambda>" q params body scope [] ((X.mg "__name__").getD .none) c' ctv).isFreed = false := rfl
    generalize hfo : (PySem.W.kla_obj "<lambda>" q params body scope [] ((X.mg "__name__").getD .none) c' ctv) = fo at hfr
    have kp : ∀ b o, b ≠ P → s.heap.get? b = some o → (h'.push fo).get? b = some o := fun b o hb e => Heap.get?_push_of_some _ (hx b o hb e)
    have I1 : Inv X pins σ (upd H P (LTb q (ps ++ #[rawInt pos.line, rawInt pos.col, .ref c']))) { s with heap := h'.push fo, toks := tk } := gen_step (s' := { s with heap := h'.push fo, toks := tk }) I hP ⟨_, rfl⟩ rfl I.bare kp (Heap.get?_push_of_some _ htb)
    have hPlt : P < s.heap.objs.size := Heap.lt_size hPo
    have fr1 : upd H P (LTb q (ps ++ #[rawInt pos.line, rawInt pos.col, .ref c'])) c' = none := by
      rw [upd_ne (Nat.ne_of_gt (Nat.lt_of_lt_of_le hPlt hge'))]; exact I.hok.fresh hge'
    have I2 := inv_track (a := c') (o := oc) I1 (Heap.get?_push_of_some _ hoc) (I.fpOk hge' fr1)
    have hfge : s.heap.objs.size ≤ h'.objs.size := Nat.le_of_lt (Nat.lt_of_le_of_lt hge' hlt)
    have fr2 : upd (upd H P (LTb q (ps ++ #[rawInt pos.line, rawInt pos.col, .ref c']))) c' (.frz oc (.own c')) h'.objs.size = none := by
      rw [upd_ne (Nat.ne_of_gt hlt), upd_ne (Nat.ne_of_gt (Nat.lt_of_lt_of_le hPlt hfge))]; exact I.hok.fresh hfge
    have I3 := inv_track (a := h'.objs.size) (o := fo) I2 (Heap.get?_push_size _ hfr) (I.fpOk hfge fr2)
    have fc : h'.objs.size ≠ c' := Nat.ne_of_gt hlt
    have ft : h'.objs.size ≠ P := Nat.ne_of_gt (Nat.lt_of_lt_of_le hPlt hfge)
    have cP : c' ≠ P := Nat.ne_of_gt (Nat.lt_of_lt_of_le hPlt hge')
    have cd : CdOk (upd (upd (upd H P (LTb q (ps ++ #[rawInt pos.line, rawInt pos.col, .ref c']))) c' (.frz oc (.own c'))) h'.objs.size (.frz fo (.own h'.objs.size))) q c' := ⟨oc, vs, t, by rw [upd_ne fc.symm, upd_same], hd, hv⟩
    refine ⟨.ref h'.objs.size, _, I3, rfl, k h'.objs.size c' ctv ((X.mg "__name__").getD .none) _ (fun b u e => ?_) (I.hok.fresh hfge) (by rw [upd_same, ← hfo]) cd⟩
    have bf : b ≠ h'.objs.size := fun z => by rw [z, I.hok.fresh hfge] at e; cases e
    have bc : b ≠ c' := fun z => by rw [z, I.hok.fresh hge'] at e; cases e
    by_cases hb : b = P
    · subst hb
      rw [hP] at e; cases e
      refine .inr (.inr ⟨q, ps, _, rfl, by rw [upd_ne bf, upd_ne bc, upd_same], fun l => ⟨?_, fun p2 cv e => ?_⟩⟩)
      · rw [Array.toList_append]
        exact triples_snoc l.1
      · rw [Array.toList_append] at e
        rcases among_snoc l.1 e with e | e
        · obtain ⟨c2, e1, e2⟩ := l.2 p2 cv e
          exact ⟨c2, e1, e2.keep0 fun x u hx => by
            rw [upd_ne (fun z => by rw [z, I.hok.fresh hfge] at hx; cases hx), upd_ne (fun z => by rw [z, I.hok.fresh hge'] at hx; cases hx), upd_ne (fun z => by rw [z, hP] at hx; cases hx)]; exact hx⟩
        · exact ⟨c', e, cd⟩
    · exact .inl (by rw [upd_ne bf, upd_ne bc, upd_ne hb]; exact e)
  | some cv =>
    obtain ⟨c', rfl, cd⟩ := hL.2 pos cv hf
    refine PySem.W.kla_makeFunctionHit hcl hge hns hcode C hPo hL.1 hf hbu fun ctv h' tk hk hsz => ?_
    have hfr : (PySem.W.kla_obj "<lambda>" q params body scope [] ((X.mg "__name__").getD .none) c' ctv).isFreed = false := rfl
    generalize hfo : (PySem.W.kla_obj "<lambda>" q params body scope [] ((X.mg "__name__").getD .none) c' ctv) = fo at hfr
    have I1 : Inv X pins σ (upd H h'.objs.size (.frz fo (.own h'.objs.size))) { s with heap := h'.push fo, toks := tk } := I.laid (fun b u e => Heap.get?_push_of_some _ (hk b u e)) hsz ⟨Heap.get?_push_size _ hfr, _, Heap.get?_push_size _ hfr⟩
    have hn := I.hok.fresh hsz
    subst hfo
    refine ⟨.ref h'.objs.size, _, I1, rfl, k h'.objs.size c' ctv ((X.mg "__name__").getD .none) _ (Keep.new hn) hn upd_same (cd.keep0 fun x u hx => by rw [upd_ne (fun z => by rw [z, hn] at hx; cases hx)]; exact hx)⟩
end U
end
section
set_option Elab.async false
set_option linter.all false
set_option maxRecDepth 100000
set_option maxHeartbeats 1000000
/-! Lambdas called; expressions that raise. -/
namespace U
open PySem PySem.Spec PyProof.Rows L2
theorem lam_of {CX : CXT} {P : Program} {w : World} {K : PySem.W.Frag} {mg : Str → Option Value} {base : Heap} {k : Nat} {f c' : Addr} {q : Str} {params : Arguments} {body : Expr} {scope : Scope} {pm ctv : Value} {N ps : List Str} (S : FnScope N ps scope)
    {A : Around} {outer : List Env} {s : Shared} {H : Hp} {args : Args} {us : List Value} {vs : List V} {Q : VK} {E : XK} {t : TE} (hr : Room (k + 1) A) (e0 : Env0 P w K mg base A outer s H) (hb : BindsTo s (PySem.W.kla_fn "<lambda>" q params body scope [] pm (.ref c') ctv) args (ps.zip us)) (r : Vals vs us) (hl : vs.length = ps.length)
    (ho : s.heap.get? f = some (lamO q params body scope pm c' ctv)) (hcd : s.heap.CodeRec (.ref c') q) (hbody : PE (cxOf CX P w K mg base N q scope f (.ref c') A outer s H E) body t) (hq : t (L2.start N vs) H Q) :
    codeAny (model P w) A (.call (.ref f) args) (CR CX outer P w H s Q E) s := by
  have KX : K.In s.heap := e0.mod.kin.keeps fun b o e => (e0.bs b o e).1
  have lim : s.heap.NoLimit := e0.mod.nolimit.keeps fun b o e => (e0.bs b o e).1
  have hkind : ∀ y ∈ ps.zip us, scope.names.lookup y.1 = some .local ∨ (scope.names.lookup y.1 = some .cell ∧ ((cellsFrom (s.heap.objs.size + 1) scope.names []).lookup y.1).isSome = true) := fun ⟨n, v⟩ hy => by
    rcases S.par n (List.of_mem_zip hy).1 with q | q
    · exact .inl q
    · exact .inr ⟨q, PySem.W.cellsFrom_some _ _ _ (.inl q)⟩
  refine PySem.W.kla_callFunE hr.depth ho rfl S.co S.gen rfl hcd (hb _ _ _ _ ?_)
  refine wpAny_newFunctionEnv_cells S.kind hkind fun env he s1 x => ?_
  subst he
  refine ⟨lim.keeps x.toInCall.keep, PySem.W.kla_codeExpr ?_⟩
  have I : Inv (cxOf CX P w K mg base N q scope f (.ref c') A outer s H E) [] (L2.start N vs) H s1 := inv_start S hr.hd e0 hl r x
  exact wpAny_mono (hbody [] s1 (L2.start N vs) H Q I hq) (fun u s' ⟨v, H', J, rv, q⟩ => ⟨v, H', J.os, J.bare, J.base, J.hok, rv, q⟩) fun e s' hs => hs
/-- an expression that ends in an exception -/
def tURe (G : GG) (E : XK) (mg : Str → Option Value) (R : DS → Option Str) : TE := fun σ H _ => ∃ He S0 P own δ y, OK G He H S0 P own σ δ ∧ R δ = some y ∧ ∀ H', Keep He H' → E (.ref (clsOf mg y)) none H'
structure URe (G : GG) (X : Cx) (E : XK) (e : Expr) (R : DS → Option Str) : Prop where
  pe : PE X e (tURe G E X.mg R)
section
variable {G : GG} {X : Cx} {E : XK} {c e : Expr} {es : List Expr} {st : Stmt} {rest : List Stmt} {tc : UTf} {fs : ULf} {B : List Nat} {u : US} {pos p px apos : Pos} {x : Str} {k j n ci i : Nat}
theorem ure_call {R : List D → Option Str} (hP : Passes (CX1 X.prog X.w) X E) (hF : FnE X.prog X.w X.K X.mg X.base G x j n R) (hr : Room k X.A) (hj : j ≤ k) (ha : UA G X (e :: es) fs B) (hl : HasLen fs n)
    (hg : L2.Gl X x := by rfl) (hdb : (x == ("__debug__" : Str)) = false := by decide) (he : starEach (e :: es) X.env = (false, eval e X.env) :: starEach es X.env := by rfl) (hpl : (backTo pos (starEach es X.env)).any (·.1) = false := by rfl) : URe G X E (.Call (.Name x p) (e :: es) [] pos) (rCall R fs) := by
  obtain ⟨fa, fd, ps, hF, hm, hk, hb⟩ := hF.ex
  refine ⟨PE.weak (pe_call (CX := CX1 X.prog X.w) (E := E) (dvs := []) hF (hr.mono hj) hg hm hk hb .nil hP ha.pa hdb he hpl) fun σ H Q ⟨He, S0, P, own, δ, y, ok, hR, kk⟩ => ?_⟩
  unfold rCall at hR
  split at hR
  · rename_i ds h1
    refine ⟨He, S0, P, own, δ, ds, ok, h1, fun vs H1 k1 r1 => ?_⟩
    show eSp G X.mg n R (vs ++ []) H1 Q E
    rw [List.append_nil]
    have ok1 := ok.keep k1
    exact ⟨AvB S0 own B, ds, y, by rw [r1.length]; exact hl δ ds h1, fun a z => ok1.avSome z, ok1.tab.keep ok1.kp, r1, hR, fun H' k' => kk H' (ok1.kp.trans k')⟩
  · cases hR
/-- either of two readings -/
def rAlt (f g : DS → Option Str) : DS → Option Str := fun δ => match f δ with | some y => some y | none => g δ
theorem urs_alt {f g : DS → Option Str} {sts : List Stmt} (h1 : URs G X E sts f) (h2 : URs G X E sts g) : URs G X E sts (rAlt f g) := ⟨fun pins s σ H D I ⟨He, S0, P, own, δ, y, ok, hR, kk⟩ => by
  unfold rAlt at hR
  split at hR
  · rename_i z hz
    cases hR
    exact h1.ps pins s σ H D I ⟨He, S0, P, own, δ, _, ok, hz, kk⟩
  · exact h2.ps pins s σ H D I ⟨He, S0, P, own, δ, y, ok, hR, kk⟩⟩
theorem pss_or {sts : List Stmt} {t1 t2 : TS} (h1 : PSs X sts t1) (h2 : PSs X sts t2) : PSs X sts (fun D σ H => t1 D σ H ∨ t2 D σ H) := fun pins s σ H D I h => h.elim (h1 pins s σ H D I) (h2 pins s σ H D I)
def rFs (g : UG) (R : DS → Option Str) (u : US) (n : Nat) : List D → DS → Option Str
  | [], _ => none
  | x :: xs, δ => match g x δ with
    | none => none
    | some δ1 => match R δ1 with
      | some y => some y
      | none => match u n δ1 with
        | some (.nx δ') => rFs g R u n xs δ'
        | _ => none
def rFor (src : ULf) (B : List Nat) (g : UG) (R : DS → Option Str) (u : US) (n : Nat) : DS → Option Str := fun δ => match src δ with
  | some xs => rFs g R u n xs (dem B δ)
  | none => none
theorem ur_for {tg e : Expr} {body : List Stmt} {src : ULf} {g : UG} {R : DS → Option Str} {n : Nat} (hi : UI G X tg e src B) (hg : UGt G X tg g) (hb : USs G X body u) (hR : URs G X E body R) (hp : PassesOwn (model X.prog X.w) X.A X.env X.xe := by exact PassesOwn.leaving) (hc : X.calm = true := by rfl)
    (hs : ∀ x, foldedSetIterable e X.env x = pure x := by intro _; rfl) : URt G X E (.For tg e body [] pos) (rFor src B g R u n) := ⟨PS.weak (ps_for hp hc hi.pi hg.pg (pss_or hb.ps hR.ps) hs) fun D' σ H ⟨He, S0, P, own, δ, y, ok, hf, k⟩ => by
  unfold rFor at hf
  split at hf
  · rename_i ds h1
    refine ⟨He, S0, P, own, δ, ds, ok, h1, fun J ps H1 k1 pin w => ?_⟩
    have ok1 : OK G He H1 S0 (ps ++ P) (ownB own B) σ (dem B δ) := ((ok.keep k1).dem B).pins fun q hq => (List.mem_append.mp hq).elim (fun z => (pin q z).mono fun a z _ => av_ownB z) fun z => ((ok.keep k1).dem B).pin q z
    have pp : ∀ {σ' H' own' δ'}, OK G He H' S0 (ps ++ P) own' σ' δ' → PinOk G H' (Av S0 own') ps := fun q x hx => q.pin x (List.mem_append_left _ hx)
    refine ⟨fun i m σ H => m = ds.length - i ∧ i ≤ ds.length ∧ ∃ own δ, OK G He H S0 (ps ++ P) own σ δ ∧ rFs g R u n (ds.drop i) δ = some y, ⟨ds.length, by omega, Nat.zero_le _, _, _, ok1, hf⟩, ?_⟩
    rintro i m σ H ⟨rfl, hi, own, δ, ok, hf⟩
    by_cases hlt : i < ds.length
    · refine .inr ⟨w.go _ i H (pp ok) hlt, fun σ' H' => ∃ own' δ', OK G He H' S0 (ps ++ P) own' σ' δ' ∧ rFs g R u n (ds.drop (i + 1)) δ' = some y, fun σ' H' q => ⟨ds.length - (i + 1), by omega, rfl, hlt, q⟩, fun x H' yl => ?_⟩
      obtain ⟨d, e1, k2, rx⟩ := w.yld _ i H x H' (pp ok) hlt yl
      rw [List.drop_eq_getElem_cons hlt] at hf
      have e2 : ds[i] = d := by rw [List.getElem?_eq_getElem hlt] at e1; exact Option.some.inj e1
      rw [e2] at hf
      unfold rFs at hf
      split at hf
      · cases hf
      · rename_i δ1 e3
        refine ⟨He, S0, ps ++ P, own, δ, d, δ1, ok.keep k2, rx, e3, fun σ2 own2 ok2 => ?_⟩
        split at hf
        · rename_i z e4
          cases hf
          exact .inr ⟨He, S0, ps ++ P, own2, δ1, _, ok2, e4, k⟩
        · split at hf
          · rename_i δ' e5
            exact .inl ⟨He, S0, ps ++ P, own2, δ1, n, _, ok2, e5, fun σ' H' own' ok' => ⟨own', δ', ok', hf⟩⟩
          · cases hf
    · have e : i = ds.length := by omega
      subst e
      rw [List.drop_length] at hf
      cases hf
  · cases hf⟩
end
end U
end
section
set_option Elab.async false
set_option linter.all false
set_option maxRecDepth 100000
set_option maxHeartbeats 1000000
/-! Objects whose making raises. -/
namespace U
open PySem PySem.Spec PyProof.Rows L2
def spIE (G : GG) (mg : Str → Option Value) (n : Nat) (R : List D → Option Str) : Sp := fun vs H _ E => ∃ (S0 : Addr → Prop) (x : Addr) (us : List V) (xs : List D) (z : Str), vs = .ref x :: us ∧ us.length = n ∧ (∀ b, S0 b → H b ≠ none) ∧ TabOk G H ∧ Reps G H S0 us xs ∧ R xs = some z ∧ ∀ H', Keep H H' → E (.ref (clsOf mg z)) none H'
structure MkE (P : Program) (w : World) (K : PySem.W.Frag) (mg : Str → Option Value) (base : Heap) (G : GG) (x : Str) (c k n : Nat) (R : List D → Option Str) : Prop where
  m : mg x = some (.ref (G.cls c))
  ex : ∃ f fd ps, Mk K (G.cls c) f ∧ FnOk P w K mg base (CX1 P w) k f fd ps (spIE G mg n R) ∧ Binds K fd ps []
theorem mkE {P : Program} {w : World} {G : GG} {mg : Str → Option Value} {base : Heap} {x : Str} {c k n : Nat} {qi : Str} {si : Stmt} {N ps FL : List Str} {R : List D → Option Str} {R' : DS → Option Str} (kk : KOk2 G.K mg (G.cls c) x qi si ps FL) (S : FnScope N ps (defScope si)) (hn : ps.length = n + 1)
    (body : ∀ (f : Addr) (cdv : Value) (A : Around) (outer : List Env) (s : Shared) (H : Hp) (E : XK), Room k (A.deeper (PyProof.Rows.envOfC qi (defScope si) s.heap.objs.size f cdv)) →
      URs G (cxOf (CX1 P w) P w G.K mg base N qi (defScope si) f cdv A outer s H E) E (defBody si) R')
    (pure : ∀ ds, R ds = R' ((startD N.length (.non :: ds)).set 0 none)) : MkE P w G.K mg base G x c (k + 1) n R := by
  obtain ⟨f, fd, M, FF, hb⟩ := kk.ini
  refine ⟨kk.m, f, fd, ps, M, ?_, hb⟩
  obtain ⟨oc, od, kV, doc, pm, an, cdv, ct, osl, rfl, lk, hcd⟩ := id FF.ex
  refine fn_of lk hcd S (fun vs H Q E ⟨S0, y, us, xs, z, ev, hl, _⟩ => by rw [ev, List.length_cons, hl, hn]) fun A outer s H vs Q E hr ⟨S0, y, us, xs, z, ev, hl, hs, ht, rv, hR, q⟩ => ⟨_, (body f cdv A outer s H E hr).ps, ?_⟩
  subst ev
  rw [pure] at hR
  have ok0 := start_ok (N := N) (vs := .non :: us) (ds := .non :: xs) hs ht (.cons .non rv)
  have ok1 := (ok0.forget 0).sigma (j := 0) (o := some (V.ref y)) (fun s e => by
    rw [List.getElem?_set, if_pos rfl] at e
    split at e <;> cases e)
  exact ⟨H, S0, [], _, _, z, ok1, hR, q⟩
section
variable {G : GG} {X : Cx} {E : XK} {e : Expr} {es : List Expr} {fs : ULf} {B : List Nat} {pos p : Pos} {x : Str} {k j n ci i : Nat} {R : List D → Option Str}
theorem ure_make (hP : Passes (CX1 X.prog X.w) X E) (hF : MkE X.prog X.w X.K X.mg X.base G x ci j n R) (hr : Room k X.A) (hj : j + 1 ≤ k) (ha : UA G X (e :: es) fs B) (hl : HasLen fs n)
    (hg : L2.Gl X x := by rfl) (hdb : (x == ("__debug__" : Str)) = false := by decide) (he : starEach (e :: es) X.env = (false, eval e X.env) :: starEach es X.env := by rfl) (hpl : (backTo pos (starEach es X.env)).any (·.1) = false := by rfl) : URe G X E (.Call (.Name x p) (e :: es) [] pos) (rCall R fs) := by
  obtain ⟨f, fd, ps, M, FF, hb⟩ := hF.ex
  refine ⟨PE.weak (pe_make (CX := CX1 X.prog X.w) (E := E) (dvs := []) M FF (hr.mono hj) hg hF.m hb .nil hP ha.pa hdb he hpl) fun σ H Q ⟨He, S0, P, own, δ, y, ok, hR, kk⟩ => ?_⟩
  unfold rCall at hR
  split at hR
  · rename_i ds h1
    refine ⟨He, S0, P, own, δ, ds, ok, h1, fun vs H1 k1 r1 => ?_⟩
    intro o dy hy hdy hne
    have ok1 := ok.keep k1
    have kn : Keep H1 (upd (upd H1 dy (.own o)) o (.ins (G.cls ci) dy [])) := fun b u eb => .inl (by
      have n1 : b ≠ o := fun z => by rw [z, hy] at eb; cases eb
      have n2 : b ≠ dy := fun z => by rw [z, hdy] at eb; cases eb
      rw [upd_ne n1, upd_ne n2]; exact eb)
    have ok2 := ok1.keep kn
    refine ⟨AvB S0 own B, o, vs, ds, y, by rw [List.append_nil], by rw [r1.length]; exact hl δ ds h1, fun a z => ok2.avSome z, ok2.tab.keep ok2.kp, r1.keep kn, hR, fun H' k' => kk H' (ok2.kp.trans k')⟩
  · cases hR
end
end U
end
section
set_option Elab.async false
set_option linter.all false
set_option maxRecDepth 100000
set_option maxHeartbeats 1000000
/-! isinstance of an exception of an own class, asked for any class. -/
namespace PySem.W
open PySem PySem.Spec PySem.Calls PyProof.Rows Builtin Builtin.ObjectAttr Builtin.Getset_descriptor
/-- an object of the class at D, no more said -/
def XIs (x D : Addr) (h : Heap) : Prop := ∃ o, h.get? x = some o ∧ o.cls = .ref D
theorem XIs.looks {M : Model} {h : Heap} {x D : Addr} (I : XIs x D h) : Looks M h (typeOf (.ref x)) (.ref D) := by
  obtain ⟨o, e, c⟩ := I
  exact c ▸ (Looks.ld e).andThen .now
section
variable {prog : Program} {w : World} {A : Around} {E : Value → Shared → Prop} {s : Shared} {K : Frag} {x D : Addr} {name : Str} {R : Result → Shared → Prop}
theorem xis_find {M : Model} {h : Heap} {a g : Value} (X : K.In h) (ha : findIn K (.ref D) name = some (some a)) (hg : specialIn K a "__get__" = some (some g)) (ht : takesIn K a = some true) : Looks M h (find (.ref x) (.ref D) name) (.bind g a) := by
  (have L1 := looks_findIn (M := M) X ha)
  have L2 : Looks M h (getOf (some a)) (some g) := looks_specialIn X hg
  have L3 := looks_takesIn (M := M) X ht
  exact L1.andThen (L2.andThen ((show Looks M h (dataDescriptor? (some a) (some g)) (some (g, a)) from L3.andThen .now).andThen (Looks.tag .now)))
theorem xis_get {tp : Value} (X : K.In s.heap) (I : XIs x D s.heap) (hm : mroIn K D (.type "object") = some true) (h : R (.ok (.ret (.ref D))) s) : codeAny (model prog w) A (.call (.builtin "getset_descriptor.__get__") ⟨[.builtin "object.__class__", .ref x, tp], []⟩) R s := by
  (obtain ⟨hh, g, dr, t, os⟩ := s)
  have L0 := I.looks (M := model prog w)
  (have L1 := looks_mroIn (M := model prog w) X hm)
  (refine codeAny_call_builtin KF.slot_gs.plain KF.entry_gs (KF.slot_gs.check _ _ _ _ _ _ _ _ KF.type_class (KF.args_gs _ _ _) ?_))
  (unfold Builtin.«getset_descriptor.__get__» descrGet)
  rw [dga_obj]
  refine wpAny_bind (wpAny_pure ?_)
  (unfold descrGetter descrCheckInstance descrNameAndClass isInstance)
  simp only [KF.owner_class]
  repeat lk
  (refine ⟨Code.quiet_builtin _ (by decide +kernel), codeAny_builtin KF.entry_class ?_⟩)
  (unfold Builtin.«object.__class__» shownTypeOf)
  repeat lk
  exact h
theorem xis_class {Q : Option Value → Shared → Prop} (hga : findIn K (.ref D) "__getattribute__" = some (some (.builtin "BaseException.__getattribute__"))) (hk : findIn K (.ref D) "__getattr__" = some none) (ha : findIn K (.ref D) "__class__" = some (some (.builtin "object.__class__")))
    (hng : specialIn K (.builtin "object.__class__") "__get__" = some (some (.builtin "getset_descriptor.__get__"))) (htk : takesIn K (.builtin "object.__class__") = some true) (hm : mroIn K D (.type "object") = some true) (hmB : mroIn K D (.type "BaseException") = some true)
    (X : K.In s.heap) (I : XIs x D s.heap) (h : Q (some (.ref D)) { s with toks := s.toks + 1 }) : wpAny (model prog w) A (getAttr? (.ref x) "__class__") Q E s := by
  obtain ⟨hh, g, d, t, os⟩ := s
  have L0 := I.looks (M := model prog w)
  (have L1 := looks_findIn (M := model prog w) X hga)
  (have L2 := looks_findIn (M := model prog w) X hk)
  have L3 := xis_find (M := model prog w) (x := x) X ha hng htk
  have L4 := looks_mroIn (M := model prog w) X hmB
  have hbs : ∀ self, bindSpecial (.builtin "BaseException.__getattribute__") self = pure (.builtin "BaseException.__getattribute__", [self]) := fun self => PySem.F.excAttr_ValueError.ga.bind self
  unfold getAttr? getAttrBy? getAttrBy
  (refine wpAny_bind (wpAny_mkText (wpAny_bind (wpAny_attempt (wpAny_holding (wpAny_bind (L0.at (wpAny_bind (L1.at ?_)))))))))
  have hne : (onTheHeap (Value.ref D) && Value.builtin "BaseException.__getattribute__" == Value.builtin "object.__getattribute__") = false := by
    rw [show (Value.builtin "BaseException.__getattribute__" == Value.builtin "object.__getattribute__") = false by decide +kernel]; rfl
  dsimp only
  rw [hne]
  show wpAny _ _ (getAttrByItsOwn _ _ _ _ _ _) _ _ _
  unfold getAttrByItsOwn
  refine wpAny_bind (show wpAny _ _ (typeLookup (.ref D) "__getattr__") _ _ _ from L2.at ?_)
  (refine wpAny_bind (wpAny_attempt (wpAny_holding ?_)))
  show wpAny _ _ (boundAndCalled _ _ _) _ _ _
  unfold boundAndCalled
  rw [hbs]
  refine wpAny_bind (wpAny_pure ?_)
  refine wpAny_call (codeAny_call_builtin PySem.F.excAttr_ValueError.ga.plain PySem.F.entry_bexc_ga (check_slot (i := "BaseException.__getattribute__") (owner := "BaseException") (n := "__getattribute__") (by decide +kernel) (by decide +kernel) (L0.andThen L4) (PySem.F.args_bexc_ga _ _) ?_))
  (unfold Builtin.«object.__getattribute__»)
  refine wpAny_bind (m := slotArgs "__getattribute__" 1 _) (wpAny_pure ?_)
  refine wpAny_bind (m := attrName _) (wpAny_pure ?_)
  refine wpAny_bind (L0.at (wpAny_bind (L3.at ?_)))
  show wpAny _ _ (holding [.builtin "object.__class__"] (call (.builtin "getset_descriptor.__get__") [.builtin "object.__class__", .ref x, .ref D]) >>= ret) _ _ _
  refine wpAny_bind (wpAny_holding (wpAny_mono (Q := fun v s' => v = .ref D ∧ s' = ⟨hh, g, d, t + 1, os⟩) (E := fun _ _ => False) (wpAny_call (xis_get (s := ⟨hh, g, d, t + 1, os⟩) X I hm ⟨rfl, rfl⟩)) (fun v s' z => ?_) fun _ _ z => z.elim))
  obtain ⟨rfl, rfl⟩ := z
  exact wpAny_pure (wpAny_pure (wpAny_pure h))
end
/-- the class of an exception, as isinstance asks -/
structure XCls (K : Frag) (D : Addr) : Prop where
  ga : findIn K (.ref D) "__getattribute__" = some (some (.builtin "BaseException.__getattribute__"))
  gk : findIn K (.ref D) "__getattr__" = some none
  ac : findIn K (.ref D) "__class__" = some (some (.builtin "object.__class__"))
  ng : specialIn K (.builtin "object.__class__") "__get__" = some (some (.builtin "getset_descriptor.__get__"))
  tk : takesIn K (.builtin "object.__class__") = some true
  mo : mroIn K D (.type "object") = some true
  mb : mroIn K D (.type "BaseException") = some true
theorem kitx_exc {K : Frag} {x D : Addr} (c : XCls K D) : KitX K (.ref x) (.ref D) (XIs x D) where
  ty := fun _ _ _ I => I.looks
  it := fun _ _ X _ => by
    have hm := c.mo
    unfold mroIn at hm
    obtain ⟨cdD, hcD, _⟩ := Option.bind_eq_some_iff.mp hm
    unfold clsIn at hcD
    split at hcD
    · rename_i c' d' cd' sl' ho
      intro A' Q' E' s' k q
      unfold isType loadHead
      (exact wpAny_bind (wpAny_loadPart (k _ _ (X _ _ ho)) (wpAny_pure q)))
    · cases hcD
  ne := fun hh tp dd its nn sl X htp => by
    have hm := c.mo
    unfold mroIn at hm
    obtain ⟨cdD, hcD, _⟩ := Option.bind_eq_some_iff.mp hm
    (refine Bool.eq_false_iff.mpr fun q => ?_)
    (have e : D = tp := Value.ref.inj (beq_iff_eq.mp q))
    subst e
    unfold clsIn at hcD
    split at hcD
    · rename_i c' d' cd' sl' ho
      (have z := (X _ _ ho).symm.trans htp)
      cases z
    · cases hcD
  ca := fun X I k => xis_class c.ga c.gk c.ac c.ng c.tk c.mo c.mb X I k
end PySem.W
end
section
set_option Elab.async false
set_option linter.all false
set_option maxRecDepth 100000
set_option maxHeartbeats 1000000
/-! A def that asks of which classes an exception is, called while one is handled. -/
namespace U
open PySem PySem.Spec L2 PyProof.Rows
/-- a def's body, perhaps while an exception is handled; an object that stays as it is -/
abbrev cxP (P : Program) (w : World) (K : PySem.W.Frag) (mg : Str → Option Value) (base : Heap) (N : List Str) (qual : Str) (scope : Scope) (f : Addr) (cd : Value) (A : Around) (outer : List Env) (s : Shared) (H : Hp) (ea : Addr) (ob : Obj) : Cx :=
  { (cxOf CX0 P w K mg base N qual scope f cd A outer s H E0).nox with calm := false, pn := [(ea, ob)] }
theorem inv_startP {P : Program} {w : World} {K : PySem.W.Frag} {mg : Str → Option Value} {base : Heap} {N ps : List Str} {qual : Str} {scope : Scope} {f : Addr} {cd : Value} {A : Around} {outer : List Env} {s s1 : Shared} {H : Hp} {ea : Addr} {ob : Obj} {us : List Value} {vs : List V}
    (S : FnScope N ps scope) (e0 : Env0 P w K mg base A outer s H) (hl : vs.length = ps.length) (r : Vals vs us) (h1 : s.heap.get? ea = some ob) (h2 : H ea = none) (h3 : ea ∉ frs outer) (h4 : ∀ v, ob.data ≠ .cell v)
    (x : InCallC s s.heap.objs.size (bindL (envOfC qual scope s.heap.objs.size f cd).kindOf (ps.zip us) fun _ => none) (cellsFrom (s.heap.objs.size + 1) scope.names []) (bindC (envOfC qual scope s.heap.objs.size f cd).kindOf (ps.zip us) fun _ => none) s1) :
    Inv (cxP P w K mg base N qual scope f cd A outer s H ea ob) [] (L2.start N vs) H s1 := by
  have hpl : ps.length ≤ N.length := by have := congrArg List.length S.pre; rw [List.length_take] at this; omega
  have x0 := x
  obtain ⟨hh, tk, rfl, hk⟩ := x.done
  have noA : ∀ b : Addr, b ∉ (cxP P w K mg base N qual scope f cd A outer s H ea ob).ex := fun b z => absurd (show b ∈ ([] : List Addr) from z) (by simp)
  refine ⟨⟨e0.mod, S.kind, rfl, rfl, Nat.le_refl _, fun y z c g1 g2 => ?_, fun y hy => ?_, fun y c _ h => ?_, fun z => (Bool.noConfusion (show false = true from z)), Around.frames_deeper e0.frames, .inr ⟨rfl, rfl⟩, fun b z => absurd z (noA b), e0.bs, e0.bsz, fun b _ _ => noA b, fun b z => absurd z (noA b), e0.funs, e0.frf⟩,
    rfl, e0.bare, Un.kept hk, ⟨_, x.toInCall.ns, fun i y v g1 g2 g3 => ?_⟩, fun y c h => ⟨_, x.cell y c h⟩, e0.hok.fresh (Nat.le_refl _), fun y c h => ?_, fun p hp => ?_, e0.hok.kept hk, ?_⟩
  · exact name_of_addr x.apart (PySem.mem_of_lookup g1) (PySem.mem_of_lookup g2)
  · have hy : scope.names.lookup y = some .cell ∨ scope.names.lookup y = some .free := hy
    rcases hy with hy | hy
    · exact cell_has hy
    · exact absurd rfl (S.nofree _ (PySem.mem_of_lookup hy))
  · exact Nat.le_of_lt (x.above y c (PySem.mem_of_lookup h))
  · have hi : i < vs.length := by
      unfold L2.start at g2
      by_cases hi : i < vs.length
      · exact hi
      · rw [List.getElem?_append_right (by simpa using hi), List.getElem?_replicate] at g2
        split at g2 <;> cases g2
    have ha : vs[i]? = some v := by
      unfold L2.start at g2
      rw [List.getElem?_append_left (by simpa using hi), List.getElem?_map] at g2
      cases e : vs[i]? with
      | none => rw [e] at g2; cases g2
      | some a => rw [e] at g2; cases g2; rfl
    obtain ⟨u, hu, rv⟩ := r.get ha
    have hp : ps[i]? = some y := by
      rw [← S.pre, List.getElem?_take_of_lt (by omega)]; exact g1
    have ndP : ps.Nodup := by rw [← S.pre]; exact S.nd.sublist (List.take_sublist _ _)
    refine ⟨u, rv, ?_⟩
    rcases S.par y (List.mem_of_getElem? hp) with k | k
    · exact .inl ⟨k, bindL_get ndP hp hu k⟩
    · obtain ⟨c, e⟩ := cell_has (n := s.heap.objs.size + 1) k
      refine .inr ⟨.inl k, c, e, ?_⟩
      have q := x.cell y c e
      rw [bindC_get ndP hp hu (by show scope.names.lookup y ≠ _; rw [k]; decide)] at q
      exact q
  · exact e0.hok.fresh (Nat.le_of_lt (x.above y c (PySem.mem_of_lookup h)))
  · have e : p = (ea, ob) := by
      (rcases List.mem_append.mp hp with z | z)
      · exact List.mem_singleton.mp z
      · exact absurd z (by simp)
    subst e
    refine ⟨hk _ _ h1, h2, Nat.ne_of_lt (Heap.lt_size h1), h3, h4⟩
  · unfold L2.start
    show _ = N.length
    rw [List.length_append, List.length_map, List.length_replicate]
    omega
section
variable {X : Cx} {ea C : Addr} {ob : Obj} {b : Bool} {en dn fn : Str} {D : Value} {pre ms bs : List Bool} {e : Expr} {es : List Expr} {rest : List Stmt} {ip np bp icp pos p px lp : Pos}
def tIsx (ea : Addr) (b : Bool) : TE := fun σ H Q => σ[0]? = some (some (.ref ea)) ∧ Q (.bl b) H
theorem pe_isxG (hpn : (ea, ob) ∈ X.pn) (hoc : ob.cls = .ref C) (xc : PySem.W.XCls X.K C) (hmi : X.mg "isinstance" = none) (hk : PySem.W.kitOne X.K (.ref C) D = some b) (hN : X.N[0]? = some en)
    (hD : ∀ (pins : List (Addr × Obj)) (σ : L2.St) (H : Hp) (s : Shared) (Q : Value → Shared → Prop), Inv X pins σ H s → Q D s → wpAny (model X.prog X.w) X.A (eval (.Name dn bp) X.env) Q X.xe s) (hgi : L2.Gl X "isinstance" := by rfl) (hv : Vis X.env.scope en := by first | exact Or.inl rfl | exact Or.inr (Or.inl rfl) | exact Or.inr (Or.inr rfl)) (hd : (en == ("__debug__" : Str)) = false := by decide) (hcd : (en == ("__classdict__" : Str)) = false := by decide)
    (he1 : starEach [.Name en np, .Name dn bp] X.env = (false, eval (.Name en np) X.env) :: starEach [.Name dn bp] X.env := by rfl) (he2 : starEach [.Name dn bp] X.env = (false, eval (.Name dn bp) X.env) :: starEach [] X.env := by rfl) (hpl : (backTo icp (starEach [.Name dn bp] X.env)).any (·.1) = false := by rfl) :
    PE X (.Call (.Name "isinstance" ip) [.Name en np, .Name dn bp] [] icp) (tIsx ea b) := by
  intro pins s σ H Q I ⟨hσ, q⟩
  refine wpAny_Call_Name_kw (ld_blt I hgi hmi (show bootBuiltins "isinstance" = some (.builtin "isinstance") by decide +kernel) ?_ (by decide) (by decide))
  refine PyProof.Rows.callWith_builtin1 ?_ he1 hpl
  rw [he1]
  show wpAny _ _ (spliced ((false, eval (.Name en np) X.env) :: backTo icp (starEach [.Name dn bp] X.env))) _ _ s
  refine Calls.spliced_cons (thn ((pe_var hN hv hd hcd) pins s σ H (fun v H7 => v = .ref ea ∧ H7 = H) I ⟨.ref ea, hσ, rfl, rfl⟩) fun u s1 ⟨v, H1, I1, r1, hv1, hH⟩ => ?_)
  subst hv1 hH
  cases (show u = Value.ref ea from r1)
  rw [he2]
  show wpAny _ _ (spliced ((false, eval (.Name dn bp) X.env) :: backTo icp (starEach [] X.env))) _ _ s1
  refine Calls.spliced_cons (hD _ _ _ _ _ I1 (Calls.spliced_nil ?_))
  have hp := (I1.pin (ea, ob) (List.mem_append_left _ hpn)).1
  exact PySem.W.kia_one (PySem.W.kitx_exc xc) I1.kIn ⟨ob, hp, hoc⟩ hk (fun z => nomatch z) fun tk => ⟨.bl b, H1, I1.tok tk, rfl, q⟩
structure KA (X : Cx) (ea : Addr) (es : List Expr) (bs : List Bool) : Prop where
  pa : PA X es (fun σ H Q => σ[0]? = some (some (.ref ea)) ∧ Q (bs.map V.bl) H)
theorem ka_nil : KA X ea [] [] := ⟨PA.weak pa_nil fun σ H Q ⟨_, q⟩ => q⟩
theorem ka_cons (he : PE X e (tIsx ea b)) (hr : KA X ea es bs) (hs : starEach (e :: es) X.env = (false, eval e X.env) :: starEach es X.env := by rfl) : KA X ea (e :: es) (b :: bs) := ⟨PA.weak (pa_cons he hr.pa hs) fun σ H Q ⟨h, q⟩ => ⟨h, h, q⟩⟩
def KPre (pre : List Bool) (σ : L2.St) (H : Hp) : Prop := pre = [] ∨ ∃ p, σ[1]? = some (some (.ref p)) ∧ H p = some (.lst (pre.map V.bl))
structure KE (X : Cx) (ea : Addr) (e : Expr) (pre bs : List Bool) : Prop where
  pe : PE X e (fun σ H Q => σ[0]? = some (some (.ref ea)) ∧ KPre pre σ H ∧ ∀ p H', Keep H H' → H p = none → H' p = some (.lst (bs.map V.bl)) → Q (.ref p) H')
theorem ke_lst (ha : KA X ea es bs) (hz : bs.length ≤ 1000) : KE X ea (.List es pos) pre bs := ⟨PE.weak (pe_lst ha.pa) fun σ H Q ⟨h, _, q⟩ => ⟨h, by rw [List.length_map]; exact Nat.le_trans hz (by rw [sizeLine_eq]; decide), fun p hp => q p _ (Keep.new hp) hp upd_same⟩⟩
theorem ke_add (ha : KA X ea es ms) (hz : pre.length + ms.length ≤ 1000) (hpre : pre ≠ []) (hN : X.N[1]? = some fn := by rfl) (hv : Vis X.env.scope fn := by first | exact Or.inl rfl | exact Or.inr (Or.inl rfl) | exact Or.inr (Or.inr rfl)) (hd : (fn == ("__debug__" : Str)) = false := by decide) (hcd : (fn == ("__classdict__" : Str)) = false := by decide) :
    KE X ea (.BinOp (.Name fn px) .Add (.List es lp) pos) pre (pre ++ ms) := ⟨PE.weak (pe_op op_cat (pe_var hN hv hd hcd) (pe_lst ha.pa)) fun σ H Q ⟨h, hp, q⟩ => by
  rcases hp with hp | ⟨p, h1, h2⟩
  · exact absurd hp hpre
  · have hsz : (pre.length + ms.length) ≤ sizeLine := Nat.le_trans hz (by rw [sizeLine_eq]; decide)
    refine ⟨_, h1, h, by rw [List.length_map]; omega, fun l hl => ⟨p, l, _, _, rfl, rfl, by rw [upd_ne (ne_of_none h2 hl)]; exact h2, upd_same, by rw [List.length_map, List.length_map]; exact hsz, fun r hr => ?_⟩⟩
    have k1 := Keep.new (o := HO.lst (ms.map V.bl)) hl
    exact q r _ (k1.trans (Keep.new hr)) (k1.free hr) (by rw [upd_same, List.map_append])⟩
structure KS (X : Cx) (ea : Addr) (sts : List Stmt) (pre bs : List Bool) : Prop where
  ps : PSs X sts (fun D σ H => σ[0]? = some (some (.ref ea)) ∧ σ.length = 2 ∧ KPre pre σ H ∧ ∀ p H', Keep H H' → H p = none → H' p = some (.lst (bs.map V.bl)) → D.rt (.ref p) H')
theorem ks_ret (he : KE X ea e pre bs) : KS X ea [.Return (some e) pos] pre bs := ⟨PSs.weak (pss_one (ps_ret he.pe)) fun D σ H ⟨h, _, hp, q⟩ => ⟨h, hp, q⟩⟩
theorem ks_set {pos' : Pos} (he : KE X ea e pre ms) (hr : KS X ea rest ms bs) (hN : X.N.Nodup) (hi : X.N[1]? = some fn := by rfl) (hx : Loc X.env.scope fn := by first | exact Or.inl rfl | exact Or.inr rfl) (hs : swapsWith e (some (.Name fn pos')) pos.line X.env = pure false := by rfl) (hf : X.fn fn = true ∨ X.env.scope.names.lookup fn = some .local := by first | exact .inl rfl | exact .inr rfl) :
    KS X ea (.Assign [.Name fn pos'] e pos :: rest) pre bs := ⟨PSs.weak (pss_cons (ps_set hN hi hx he.pe hs hf) hr.ps) fun D σ H ⟨h, hl, hp, q⟩ => ⟨h, hp, fun p H1 k1 n1 e1 => ⟨by rw [List.getElem?_set_ne (by decide)]; exact h, by rw [List.length_set]; exact hl, .inr ⟨p, List.getElem?_set_self (by omega), e1⟩, fun p2 H2 k2 n2 e2 => q p2 H2 (k1.trans k2) (k1.free n2) e2⟩⟩⟩
end
/-- what the def promises -/
structure KindsOk (P : Program) (w : World) (K : PySem.W.Frag) (mg : Str → Option Value) (base : Heap) (x : Str) (C : Addr) (bs : List Bool) : Prop where
  ex : ∃ f, mg x = some (.ref f) ∧ PySem.W.keepIn K (.ref f) = true ∧ ∀ (A : Around) (outer : List Env) (s : Shared) (H : Hp) (ea : Addr) (ob : Obj), A.depth < recursionLimit → Env0 P w K mg base A outer s H → s.heap.get? ea = some ob → ob.cls = .ref C → H ea = none → ea ∉ frs outer → (∀ v, ob.data ≠ .cell v) →
    codeAny (model P w) A (.call (.ref f) ⟨[.ref ea], []⟩) (CR CX0 outer P w H s (fun v H' => ∃ p, v = .ref p ∧ Keep H H' ∧ H p = none ∧ H' p = some (.lst (bs.map V.bl))) E0) s
theorem kindsOk {P : Program} {w : World} {K : PySem.W.Frag} {mg : Str → Option Value} {base : Heap} {x en : Str} {C : Addr} {st : Stmt} {bs : List Bool} {N : List Str} (dd : Def1 K mg x st [en]) (S : FnScope N [en] (defScope st)) (hN2 : N.length = 2)
    (body : ∀ (f : Addr) (cdv : Value) (A : Around) (outer : List Env) (s : Shared) (H : Hp) (ea : Addr) (ob : Obj), ob.cls = .ref C → KS (cxP P w K mg base N x (defScope st) f cdv A outer s H ea ob) ea (defBody st) [] bs) : KindsOk P w K mg base x C bs := by
  obtain ⟨f, fd, FF, hm, hb⟩ := dd.ex
  refine ⟨f, hm, FF.kp, fun A outer s H ea ob hr e0 h1 hoc h2 h3 h4 => ?_⟩
  obtain ⟨oc, od, kV, doc, pm, an, cdv, ct, osl, rfl, lk, hcd⟩ := id FF.ex
  have KX : K.In s.heap := e0.mod.kin.keeps fun b o e => (e0.bs b o e).1
  have lim : s.heap.NoLimit := e0.mod.nolimit.keeps fun b o e => (e0.bs b o e).1
  have hb' : BindsTo s (PySem.W.fnOf x x (defArgs st) (defBody st) (defScope st) .none kV doc pm an cdv ct) ⟨[.ref ea], []⟩ ([en].zip [.ref ea]) := by
    have := hb s [.ref ea] KX (by rfl)
    simpa using this
  have hkind : ∀ y ∈ [en].zip [Value.ref ea], (defScope st).names.lookup y.1 = some .local ∨ ((defScope st).names.lookup y.1 = some .cell ∧ ((cellsFrom (s.heap.objs.size + 1) (defScope st).names []).lookup y.1).isSome = true) := fun ⟨n, v⟩ hy => by
    rcases S.par n (List.of_mem_zip hy).1 with q | q
    · exact .inl q
    · exact .inr ⟨q, PySem.W.cellsFrom_some _ _ _ (.inl q)⟩
  refine codeAny_call_function hr (KX _ _ lk) rfl S.co S.gen rfl (PySem.W.codeRec_of KX hcd) (hb' _ _ _ _ ?_)
  refine wpAny_newFunctionEnv_cells S.kind hkind fun env he s1 xx => ?_
  subst he
  refine ⟨lim.keeps xx.toInCall.keep, codeAny_func ?_⟩
  have I := inv_startP (vs := [.ref ea]) (us := [.ref ea]) S e0 rfl (.cons rfl .nil) h1 h2 h3 h4 xx
  have hl : (L2.start N [V.ref ea]).length = 2 := by unfold L2.start; simp [hN2]
  refine wpAny_mono ((body f cdv A outer s H ea ob hoc).ps [] s1 _ H { nx := fun _ _ => False, rt := fun v H' => ∃ p, v = .ref p ∧ Keep H H' ∧ H p = none ∧ H' p = some (.lst (bs.map V.bl)) } I ⟨rfl, hl, .inl rfl, fun p H' k n e => ⟨p, rfl, k, n, e⟩⟩) (fun fl s' hs => ?_) fun e s' hs => (show False from hs).elim
  cases fl with
  | ret u =>
    obtain ⟨v, σ', H', J, rv, q⟩ := hs
    exact ⟨v, H', J.os, J.bare, J.base, J.hok, rv, q⟩
  | next => obtain ⟨_, _, _, q⟩ := hs; exact False.elim q
  | brk => obtain ⟨_, _, _, q⟩ := hs; exact False.elim q
  | cont => obtain ⟨_, _, _, q⟩ := hs; exact False.elim q
end U
end
section
set_option Elab.async false
set_option linter.all false
set_option maxRecDepth 100000
set_option maxHeartbeats 1000000
/-! Lambdas as known things: made, asked within a try. -/
namespace U
open PySem PySem.Spec L2 PyProof.Rows
structure LamI where
  q : Str
  ps : Arguments
  body : Expr
  sc : Scope
def lamOf (q : Str) : Expr → LamI
  | .Lambda ps body sc _ => ⟨q, ps, body, sc⟩
  | e => ⟨q, ⟨[], [], none, [], [], none, []⟩, e, ⟨.function, [], false, false, []⟩⟩
def lamEx (L : Nat → LamI) (n : Nat) (H : Hp) (a : Addr) : Prop := ∃ c' ctv pm, H a = some (.frz (lamO (L n).q (L n).ps (L n).body (L n).sc pm c' ctv) (.own a)) ∧ CdOk H (L n).q c'
theorem lamEx_X (L : Nat → LamI) (n : Nat) (H H' : Hp) (a : Addr) (k : ∀ b o, H b = some (.frz o (.own b)) → H' b = some (.frz o (.own b))) : lamEx L n H a → lamEx L n H' a := fun ⟨c', ctv, pm, h1, o, vs, t, h2, h3, h4⟩ => ⟨c', ctv, pm, k _ _ h1, o, vs, t, k _ _ h2, h3, h4⟩
structure LamCx (G : GG) (X : Cx) (q : Str) : Prop where
  ex : ∃ c P bm ob, X.env.code = .ref c ∧ CodeAt X.base c P ∧ PyProof.Rows.BMod X.base mainGlobals X.mg bm ob ∧ (P, q) ∈ G.ltabs
section
variable {G : GG} {X : Cx} {L : Nat → LamI} {n : Nat} {q : Str} {params : Arguments} {body : Expr} {scope : Scope} {pos : Pos}
theorem u_lam (hc : LamCx G X q) (hx : G.exs = lamEx L) (hL : L n = ⟨q, params, body, scope⟩) (hq : X.env.qual ++ "<lambda>" = q := by rfl) (hge : X.env.globals = mainGlobals := by rfl)
    (hdef : defaultsOf params X.env = ([], []) := by rfl) (hcl : closureFor scope X.env = pure [] := by rfl) : UE G X (.Lambda params body scope pos) (uC (.ex n)) [] := by
  obtain ⟨c, P, bm, ob, h1, h2, h3, h4⟩ := hc.ex
  refine ⟨PE.weak (pe_lam h1 h2 h3 hq hge hdef hcl) fun σ H Q ⟨He, S0, P', own, δ, d, ok, hf, k⟩ => ?_⟩
  cases hf
  obtain ⟨ps, e, l⟩ := (ok.tab.keep ok.kp).l (P, q) h4
  exact ⟨ps, e, l, fun f c' ctv pm H' k1 hn hf' cd => k _ _ k1 (.ex hf' (by rw [hx]; exact ⟨c', ctv, pm, by rw [hL]; exact hf', by rw [hL]; exact cd⟩))⟩
theorem u_dnew {bpos : Pos} : UE G X (.Dict [] [] bpos) (uC .dct) [] := ⟨PE.weak pe_dnewK fun σ H Q ⟨He, S0, P, own, δ, d, ok, hf, k⟩ => by
  cases hf
  exact fun p hp => k _ _ (Keep.new hp) (.dct upd_same)⟩
end
/-! ### a lambda asked -/
structure LamE (P : Program) (w : World) (K : PySem.W.Frag) (mg : Str → Option Value) (base : Heap) (G : GG) (n k : Nat) (R : List D → Option Str) : Prop where
  fn : ∀ (H : Hp) (a : Addr) (o : Obj), G.exs n H a → H a = some (.frz o (.own a)) → ∃ oc od fd sl, o = ⟨oc, od, .func fd, sl⟩
  run : ∀ (A : Around) (outer : List Env) (s : Shared) (H : Hp) (a : Addr) (S0 : Addr → Prop) (u : Value) (v : V) (d : D) (y : Str) (Q : VK) (E : XK), Room k A → Env0 P w K mg base A outer s H → G.exs n H a → RelV v u → (∀ b, S0 b → H b ≠ none) → TabOk G H → Rep G H S0 v d → R [d] = some y → (∀ H', Keep H H' → E (.ref (clsOf mg y)) none H') →
    codeAny (model P w) A (.call (.ref a) ⟨[u], []⟩) (CR (CX1 P w) outer P w H s Q E) s
theorem lamE {P : Program} {w : World} {K : PySem.W.Frag} {mg : Str → Option Value} {base : Heap} {G : GG} {L : Nat → LamI} {n k : Nat} {q x : Str} {params : Arguments} {body : Expr} {sc : Scope} {N : List Str} {R : List D → Option Str} {R' : DS → Option Str} (hx : G.exs = lamEx L) (hL : L n = ⟨q, params, body, sc⟩) (S : FnScope N [x] sc)
    (hb : ∀ s u pm c' ctv, BindsTo s (PySem.W.kla_fn "<lambda>" q params body sc [] pm (.ref c') ctv) ⟨[u], []⟩ ([x].zip [u]))
    (hbody : ∀ f c' A outer s H E, Room k (A.deeper (PyProof.Rows.envOfC q sc s.heap.objs.size f (.ref c'))) → URe G (cxOf (CX1 P w) P w K mg base N q sc f (.ref c') A outer s H E) E body R')
    (pure : ∀ ds, R ds = R' (startD N.length ds)) : LamE P w K mg base G n (k + 1) R := by
  refine ⟨fun H a o he h => ?_, fun A outer s H a S0 u v d y Q E hr e0 he hu hs ht rv hR hE => ?_⟩
  · rw [hx] at he
    obtain ⟨c', ctv, pm, h1, _⟩ := he
    rw [h] at h1
    cases h1
    exact ⟨_, _, _, _, rfl⟩
  rw [hx] at he
  obtain ⟨c', ctv, pm, h1, o, vs, t, h2, h3, h4⟩ := he
  rw [hL] at h1 h4
  have o1 := e0.hok _ _ h1
  have o2 := e0.hok _ _ h2
  rw [pure] at hR
  exact lam_of (vs := [v]) (us := [u]) S hr e0 (hb s u pm c' ctv) (.cons hu .nil) rfl o1.1 ⟨c', o, vs, t, rfl, o2.1, h3, h4⟩ (hbody a c' A outer s H E (hr.deeper _)).pe ⟨H, S0, [], _, _, y, start_ok (N := N) hs ht (.cons rv .nil), hR, hE⟩
/-! ### the try -/
section
variable {X : Cx} {pins : List (Addr × Obj)} {σ : L2.St} {H : Hp} {s : Shared} {ea : Addr} {ob : Obj}
theorem inv_pn (I : Inv X ((ea, ob) :: pins) σ H s) : Inv { X with pn := (ea, ob) :: X.pn } pins σ H s :=
  ⟨⟨I.ok.mod, I.ok.kind, I.ok.glob, I.ok.blt, I.ok.above, I.ok.inj, I.ok.has, I.ok.cab, I.ok.hd, I.ok.frames, I.ok.stk, I.ok.exf, I.ok.bs, I.ok.bsz, I.ok.noex, I.ok.exfs, I.ok.funs, I.ok.frf⟩, I.os, I.bare, I.base, I.loc, I.cell, I.free, I.freeC, fun p hp => I.pin p (by
    (rcases List.mem_append.mp hp with z | z)
    · rcases List.mem_cons.mp z with z | z
      · exact List.mem_append_right _ (by rw [z]; exact List.mem_cons_self)
      · (exact List.mem_append_left _ z)
    · exact List.mem_append_right _ (List.mem_cons_of_mem _ z)), I.hok, I.len⟩
theorem inv_unpn (I : Inv { X with pn := (ea, ob) :: X.pn } pins σ H s) : Inv X ((ea, ob) :: pins) σ H s :=
  ⟨⟨I.ok.mod, I.ok.kind, I.ok.glob, I.ok.blt, I.ok.above, I.ok.inj, I.ok.has, I.ok.cab, I.ok.hd, I.ok.frames, I.ok.stk, I.ok.exf, I.ok.bs, I.ok.bsz, I.ok.noex, I.ok.exfs, I.ok.funs, I.ok.frf⟩, I.os, I.bare, I.base, I.loc, I.cell, I.free, I.freeC, fun p hp => I.pin p (by
    (rcases List.mem_append.mp hp with z | z)
    · exact List.mem_append_left _ (List.mem_cons_of_mem _ z)
    · rcases List.mem_cons.mp z with z | z
      · exact List.mem_append_left _ (by rw [z]; exact List.mem_cons_self)
      · exact List.mem_append_right _ z), I.hok, I.len⟩
end
/-- kinds(e) of a pinned exception -/
def tKc (i : Nat) (ea : Addr) (bs : List Bool) : TE := fun σ H Q => σ[i]? = some (some (.ref ea)) ∧ ∀ p H', Keep H H' → H p = none → H' p = some (.lst (bs.map V.bl)) → Q (.ref p) H'
theorem pe_kinds {X : Cx} {ea C : Addr} {ob : Obj} {x en : Str} {i : Nat} {bs : List Bool} {p np cp : Pos} (hK : KindsOk X.prog X.w X.K X.mg X.base x C bs) (hpn : (ea, ob) ∈ X.pn) (hoc : ob.cls = .ref C) (hdp : X.A.depth < recursionLimit) (hi : X.N[i]? = some en) (hv : Vis X.env.scope en)
    (hg : L2.Gl X x) (hdb : (x == ("__debug__" : Str)) = false) (hd : (en == ("__debug__" : Str)) = false) (hcd : (en == ("__classdict__" : Str)) = false)
    (he : starEach [.Name en np] X.env = (false, eval (.Name en np) X.env) :: starEach [] X.env) (hpl : (backTo cp (starEach [] X.env)).any (·.1) = false) : PE X (.Call (.Name x p) [.Name en np] [] cp) (tKc i ea bs) := by
  intro pins s σ H Q I ⟨hσ, q⟩
  obtain ⟨f, hm, hk, F⟩ := hK.ex
  refine wpAny_Call_Name_kw (ld_glob I hg hm ?_ hdb)
  refine PySem.W.callWith_K (h₀ := X.base) I.ok.mod.kin hk ?_ he hpl
  rw [he]
  show wpAny _ _ (spliced ((false, eval (.Name en np) X.env) :: backTo cp (starEach [] X.env))) _ _ s
  refine Calls.spliced_cons (thn ((pe_var hi hv hd hcd) pins s σ H (fun v H7 => v = .ref ea ∧ H7 = H) I ⟨.ref ea, hσ, rfl, rfl⟩) fun u s1 ⟨v, H1, I1, r1, hv1, hH⟩ => ?_)
  subst hv1 hH
  cases (show u = Value.ref ea from r1)
  refine Calls.spliced_nil ⟨I1.kIn, ?_⟩
  obtain ⟨h1, h2, h3, h4, h5⟩ := I1.pin (ea, ob) (List.mem_append_left _ hpn)
  have h6 : ea ∉ frs X.stack := fun z => by
    rcases List.mem_cons.mp (I1.stkSub ea z) with z | z
    · exact h3 z
    · exact h4 z
  refine wpAny_call (codeAny_mono (F X.A X.stack s1 H1 ea ob hdp I1.env0 h1 hoc h2 h6 h5) fun r s' hq => ?_)
  cases r with
  | error e => exact hq.elim
  | ok fl =>
    cases fl with
    | ret u =>
      obtain ⟨v, H', a1, a2, a3, a4, a5, p, rfl, k1, n1, e1⟩ := hq
      exact I1.after ⟨_, H', a1, a2, a3, a4, a5, q p H' k1 n1 e1⟩
    | next => exact False.elim hq
    | brk => exact False.elim hq
    | cont => exact False.elim hq
def uTryF (RL : Nat → List D → Option Str) (kd : Str → Option (List Bool)) (ia it is ie : Nat) : US := fun _ δ => match uVar ia δ with
  | some (.ex n) => (match uVar it δ with
    | some d => (match RL n [d] with
      | some y => (match kd y with
        | some bs => some (.nx (((δ.set ie none).set is (some (.ol (bs.map D.bl)))).set ie none))
        | none => none)
      | none => none)
    | none => none)
  | _ => none
theorem reps_bl {G : GG} {H : Hp} {S : Addr → Prop} : ∀ bs : List Bool, Reps G H S (bs.map V.bl) (bs.map D.bl)
  | [] => .nil
  | b :: bs => .cons (.bl b) (reps_bl bs)
section
variable {G : GG} {X : Cx} {RL : Nat → List D → Option Str} {kd : Str → Option (List Bool)} {ask thing sorts kinds hn en : Str} {k j ia it is ie : Nat} {p px cp ep hp ip np icp rp hpos tpos sp : Pos}
theorem us_tryF (pl : Plain X) (hx0 : ∀ e s, ¬ X.xe e s) (hF : ∀ n, LamE X.prog X.w X.K X.mg X.base G n j (RL n)) (hr : Room k X.A) (hj : j ≤ k) (hK : ∀ y bs, kd y = some bs → ∃ C Dh, X.mg y = some (.ref C) ∧ X.mg hn = some (.ref Dh) ∧ PySem.W.exmOne X.K (.ref C) (.ref Dh) = some true ∧ KindsOk X.prog X.w X.K X.mg X.base kinds C bs) (hN : X.N.Nodup)
    (ha : X.N[ia]? = some ask := by rfl) (hva : Vis X.env.scope ask := by first | exact Or.inl rfl | exact Or.inr (Or.inl rfl) | exact Or.inr (Or.inr rfl)) (hda : (ask == ("__debug__" : Str)) = false := by decide) (hca : (ask == ("__classdict__" : Str)) = false := by decide)
    (ht : X.N[it]? = some thing := by rfl) (hvt : Vis X.env.scope thing := by first | exact Or.inl rfl | exact Or.inr (Or.inl rfl) | exact Or.inr (Or.inr rfl)) (hdt : (thing == ("__debug__" : Str)) = false := by decide) (hct : (thing == ("__classdict__" : Str)) = false := by decide)
    (his : X.N[is]? = some sorts := by rfl) (hloS : X.env.scope.names.lookup sorts = some .local := by rfl)
    (hi : X.N[ie]? = some en := by rfl) (hloc : X.env.scope.names.lookup en = some .local := by rfl) (hgh : L2.Gl X hn := by rfl) (hgk : L2.Gl X kinds := by rfl)
    (hdh : (hn == ("__debug__" : Str)) = false := by decide) (hdk : (kinds == ("__debug__" : Str)) = false := by decide) (hde : (en == ("__debug__" : Str)) = false := by decide) (hce : (en == ("__classdict__" : Str)) = false := by decide)
    (hs : swapsWith (.Call (.Name ask p) [.Name thing px] [] cp) none ep.line X.env = pure false := by rfl)
    (hs2 : swapsWith (.Call (.Name kinds ip) [.Name en np] [] icp) (some (.Name sorts sp)) rp.line X.env = pure false := by rfl)
    (he0 : starEach [.Name thing px] X.env = (false, eval (.Name thing px) X.env) :: starEach [] X.env := by rfl) (hpl0 : (backTo cp (starEach [] X.env)).any (·.1) = false := by rfl)
    (he1 : starEach [.Name en np] X.env = (false, eval (.Name en np) X.env) :: starEach [] X.env := by rfl) (hpl1 : (backTo icp (starEach [] X.env)).any (·.1) = false := by rfl) :
    USt G X (.Try [.Expr (.Call (.Name ask p) [.Name thing px] [] cp) ep] [.ExceptHandler (some (.Name hn hp)) (some en) [.Assign [.Name sorts sp] (.Call (.Name kinds ip) [.Name en np] [] icp) rp] hpos] [] [] tpos) (uTryF RL kd ia it is ie) := by
  refine ⟨fun pins s σ H DD I ⟨He, S0, P, own, δ, fuel, r, ok, hf, kk⟩ => ?_⟩
  unfold uTryF at hf
  split at hf
  · rename_i n h1
    split at hf
    · rename_i d h2
      split at hf
      · rename_i y hR
        split at hf
        · rename_i bs hkd
          cases hf
          have kk : ∀ σ' H' own', OK G He H' S0 P own' σ' (((δ.set ie none).set is (some (.ol (bs.map D.bl)))).set ie none) → DD.nx σ' H' := kk
          obtain ⟨C, Dh, hmC, hmh, hxm, KO⟩ := hK y bs hkd
          have get : ∀ {i : Nat} {d : D}, uVar i δ = some d → ∃ v, σ[i]? = some (some v) ∧ Rep G H (AvB S0 own [i]) v d := fun {i d} h => by
            unfold uVar at h
            split at h
            · rename_i s0 e0
              obtain ⟨v, g1, g2⟩ := ok.var e0
              injection h with h; subst h
              exact ⟨v, g1, g2⟩
            · cases h
          obtain ⟨va, ga, ra⟩ := get h1
          obtain ⟨vt, gt, rt⟩ := get h2
          refine wpAny_Try_except (wpAny_execs_cons (wpAny_Expr_any ?_ I.quiet hs))
          refine wpAny_Call_Name_kw (wpAny_mono ((pe_var ha hva hda hca) pins s σ H (fun v H7 => v = va ∧ H7 = H) I ⟨va, ga, rfl, rfl⟩) (fun u s1 ⟨v, H1, I1, r1, hv1, hH⟩ => ?_) fun e0 s0 z => (hx0 _ _ z).elim)
          subst hv1 hH
          cases ra with
          | @ex a _ o hh hex =>
          obtain rfl : u = Value.ref a := r1
          have hfo : ∀ s, Inv X pins σ H1 s → s.heap.get? a = some o := fun s J => (J.hok a _ hh).1
          have hfa : ∀ s, Inv X pins σ H1 s → PySem.W.FnAt a s.heap := fun s J => by
            obtain ⟨oc, od, fd, sl, e⟩ := (hF n).fn H1 a o hex hh
            exact ⟨oc, od, fd, sl, by rw [hfo s J, e]⟩
          refine PySem.W.callWith_F (first := []) (hfa _ I1) ?_ he0 hpl0
          rw [he0]
          show wpAny _ _ (spliced ((false, eval (.Name thing px) X.env) :: backTo cp (starEach [] X.env))) _ _ s1
          refine Calls.spliced_cons (wpAny_mono ((pe_var ht hvt hdt hct) pins s1 σ H1 (fun v H7 => v = vt ∧ H7 = H1) I1 ⟨vt, gt, rfl, rfl⟩) (fun u2 s2 ⟨v2, H2, I2, r2, hv2, hH2⟩ => ?_) fun e0 s0 z => (hx0 _ _ z).elim)
          subst hv2 hH2
          refine Calls.spliced_nil ⟨hfa _ I2, ?_⟩
          refine wpAny_call (codeAny_mono ((hF n).run X.A X.stack s2 H2 a (AvB S0 own [it]) u2 v2 d y (fun _ _ => False) (fun cls _ H' => cls = .ref C ∧ Keep H2 H') (hr.mono hj) I2.env0 hex r2 (fun b z => ok.avSome z) (ok.tab.keep ok.kp) rt hR fun H' k' => ⟨by rw [clsOf_eq hmC], k'⟩) fun r s3 hq => ?_)
          cases r with
          | ok fl =>
            cases fl with
            | ret u => obtain ⟨_, _, _, _, _, _, _, q⟩ := hq; exact q.elim
            | next => exact hq.elim
            | brk => exact hq.elim
            | cont => exact hq.elim
          | error ev =>
            obtain ⟨ea, cls, H', rfl, fly, rfl, kH⟩ := hq
            refine catch_as pl hx0 I2 fly hmh hxm hN (fun s5 ob ws J6 hoc hod => ?_) hi hloc hgh hdh
            have J7 := inv_pn J6
            have hgt : (σ.set ie (some (.ref ea)))[ie]? = some (some (V.ref ea)) := List.getElem?_set_self (by rw [I2.len]; exact (List.getElem?_eq_some_iff.mp hi).1)
            have PK := pe_kinds (X := { sui X ea with pn := (ea, ob) :: X.pn }) (ea := ea) (ob := ob) (np := np) (cp := icp) (p := ip) KO List.mem_cons_self hoc (show (X.A.mark (some (.ref ea))).depth < recursionLimit from hr.depth) hi (.inl hloc) hgk hdk hde hce he1 hpl1
            have PA := pss_one (ps_set (pos := rp) (pos' := sp) (X := { sui X ea with pn := (ea, ob) :: X.pn }) hN his (.inl hloS) PK hs2 (.inr hloS))
            refine wpAny_mono (PA pins s5 _ H' (behind ie DD) J7 ⟨hgt, fun p H9 k9 n9 e9 => ?_⟩) (fun f s7 q => ?_) fun e0 s0 z => (hx0 _ _ z).elim
            · have ok1 := (ok.keep kH).wipe1 ie (some (.ref ea))
              have ok2 := (ok1.setL k9 is n9 e9 (reps_bl bs)).wipe1 ie none
              exact kk _ H9 _ ok2
            · cases f with
              | next => obtain ⟨σ', H8, J8, q⟩ := q; exact ⟨σ', H8, inv_unpn J8, q⟩
              | brk => obtain ⟨σ', H8, J8, q⟩ := q; exact ⟨σ', H8, inv_unpn J8, q⟩
              | cont => obtain ⟨σ', H8, J8, q⟩ := q; exact ⟨σ', H8, inv_unpn J8, q⟩
              | ret u => obtain ⟨v, σ', H8, J8, r8, q⟩ := q; exact ⟨v, σ', H8, inv_unpn J8, r8, q⟩
        · cases hf
      · cases hf
    · cases hf
  · cases hf
end
end U
end
section
set_option Elab.async false
set_option linter.all false
set_option maxRecDepth 100000
set_option maxHeartbeats 1000000
/-! Defs that make lambdas; the head with their tables. -/
namespace U
open PySem PySem.Spec L2 PyProof.Rows
def lamQ (x : Str) : Str := x ++ ".<locals>.<lambda>"
def ltabsOf (l : List GQ) : List (Addr × Str) := l.map fun q => (q.2.2.2, lamQ q.1)
/-- the defs that make lambdas -/
structure LamD (G : GG) (base : Heap) (mg : Str → Option Value) (x : Str) : Prop where
  ex : ∃ bm ob gl, BMod base mainGlobals mg bm ob ∧ G.ltabs = ltabsOf gl ∧ ∃ q ∈ gl, q.1 = x ∧ GB G.K base mg q
theorem fn_ul {P : Program} {w : World} {G : GG} {mg : Str → Option Value} {base : Heap} {x qual : Str} {st : Stmt} {f : Addr} {fd : FuncData} {N ps : List Str} {k n : Nat} {F : List D → Option SV} {comb : US} (ld : LamD G base mg x) (hm : mg x = some (.ref f)) (hx : x ≠ "Walker.around")
    (FF : Fun G.K x qual st f fd) (S : FnScope N ps (defScope st)) (hn : ps.length = n)
    (body : ∀ (cdv : Value) (A : Around) (outer : List Env) (s : Shared) (H : Hp) (E : XK), Room k (A.deeper (PyProof.Rows.envOfC qual (defScope st) s.heap.objs.size f cdv)) → LamCx G (cxOf CX0 P w G.K mg base N qual (defScope st) f cdv A outer s H E).nox (lamQ x) →
      USs G (cxOf CX0 P w G.K mg base N qual (defScope st) f cdv A outer s H E).nox (defBody st) comb)
    (pure : ∀ ds r, F ds = some r → ∃ fuel, runD comb fuel N.length ds = some r) : FnOk P w G.K mg base CX0 (k + 1) f fd ps (uSp G n F) := by
  obtain ⟨oc, od, kV, doc, pm, an, cdv, ct, osl, rfl, lk, hcd⟩ := FF.ex
  obtain ⟨bm, ob, gl, hB, ht, q, hq, rfl, gb⟩ := ld.ex
  rcases gb.nm with ⟨_, nm⟩ | ⟨z, _⟩
  rotate_left
  · exact absurd z hx
  have e := nm.symm.trans hm
  have e2 : q.2.1 = f := by injection e with e; injection e
  subst e2
  refine fn_of lk hcd S (fun vs H Q E ⟨S0, ds, r, hl, _⟩ => by rw [hl, hn]) fun A outer s H vs Q E hr ⟨S0, ds, r, hl, hs, htb, rv, hF, qq⟩ => ?_
  have hc : LamCx G (cxOf CX0 P w G.K mg base N qual (defScope st) q.2.1 cdv A outer s H E).nox (lamQ q.1) := ⟨_, _, bm, ob, gb.fn _ _ lk rfl, gb.code, hB, by rw [ht]; exact List.mem_map.mpr ⟨q, hq, rfl⟩⟩
  refine ⟨_, (body cdv A outer s H E hr hc).ps.nox, ?_⟩
  obtain ⟨fuel, h⟩ := pure ds r hF
  unfold runD at h
  split at h
  · rename_i r' e
    cases h
    exact ⟨H, S0, [], _, _, fuel, _, start_ok hs htb rv, e, RtPost.mono (fun _ _ q => q) qq⟩
  · rename_i δ' e
    cases h
    exact ⟨H, S0, [], _, _, fuel, _, start_ok hs htb rv, e, fun σ' H' own' ok' => qq .non H' ok'.kp .non⟩
  · cases h
theorem fn1l {P : Program} {w : World} {G : GG} {mg : Str → Option Value} {base : Heap} {x : Str} {st : Stmt} {N ps : List Str} {k n fuel : Nat} {comb : US} (ld : LamD G base mg x) (dd : Def1 G.K mg x st ps) (S : FnScope N ps (defScope st)) (hn : ps.length = n)
    (body : ∀ (f : Addr) (cdv : Value) (A : Around) (outer : List Env) (s : Shared) (H : Hp) (E : XK), Room k (A.deeper (PyProof.Rows.envOfC x (defScope st) s.heap.objs.size f cdv)) → LamCx G (cxOf CX0 P w G.K mg base N x (defScope st) f cdv A outer s H E).nox (lamQ x) →
      USs G (cxOf CX0 P w G.K mg base N x (defScope st) f cdv A outer s H E).nox (defBody st) comb) (hx : x ≠ "Walker.around" := by decide) : Fn1 P w G.K mg base G x (k + 1) n (runD comb fuel N.length) := by
  obtain ⟨f, fd, FF, hm, hb⟩ := dd.ex
  exact ⟨f, fd, ps, fn_ul ld hm hx FF S hn (body f) fun ds r h => ⟨fuel, h⟩, hm, FF.kp, hb⟩
/-! ### the head -/
/-- where a def's table is, as the written part says -/
def tabP (K : PySem.W.Frag) (x : Str) : Option Addr := match PySem.W.nsIn K mainGlobals x with
  | some (some (.ref fa)) => (match K.lookup fa with
    | some ⟨_, _, .func fnd, _⟩ => (match fnd.code with
      | .ref cc => (match K.lookup cc with
        | some ⟨_, _, .fields vs, _⟩ => (match vs.toList.drop 11 with | .ref P :: _ => some P | _ => none)
        | _ => none)
      | _ => none)
    | _ => none)
  | _ => none
theorem tabP_of {K : PySem.W.Frag} {h : Heap} {mg : Str → Option Value} {q : GQ} (X : K.In h) (Gn : h.Ns mainGlobals mg) (g : GT K h mg q) (hne : q.1 ≠ "Walker.around") {P : Addr} (e : tabP K q.1 = some P) : q.2.2.2 = P := by
  unfold tabP at e
  split at e
  · rename_i f h1
    have hm := PySem.W.mg_of X Gn h1
    rcases g.nm with ⟨_, nm⟩ | ⟨z, _⟩
    rotate_left
    · exact absurd z hne
    have e2 : q.2.1 = f := by
      have := nm.symm.trans hm
      injection this with this; injection this
    split at e
    · rename_i oc od fd sl h2
      have g2 := X _ _ h2
      obtain ⟨o, fd', f1, f2, f3⟩ := g.fn
      rw [e2] at f1
      rw [g2] at f1; cases f1
      cases f2
      rw [f3] at e
      dsimp only at e
      split at e
      · rename_i oc3 od3 vs sl3 h3
        have g3 := X _ _ h3
        obtain ⟨o', vs', file, tf, flags, tg, inF, text, tt, op, e1, e2', e3, _⟩ := g.code
        rw [g3] at e1; cases e1
        cases e2'
        split at e
        · rename_i r hd
          cases e
          have : vs.getD 11 .none = .ref P := by
            have hl : vs.toList[11]? = some (.ref P) := by
              have := congrArg (fun l => l[0]?) hd
              simpa [List.getElem?_drop] using this
            rw [Array.getD_eq_getD_getElem?, ← Array.getElem?_toList, hl]; rfl
          rw [e3] at this
          injection this
        · cases e
      · cases e
    · cases e
  · cases e
def tagOf (K : PySem.W.Frag) (ls : List Str) (P : Addr) : Option Str := (ls.find? fun x => tabP K x == some P).map lamQ
def apartT (K : PySem.W.Frag) (ds ls : List Str) : Bool :=
  ds.all (fun y => match tabP K y with | some P => (tagOf K ls P).isNone | none => false) && ls.all fun x => match tabP K x with | some P => tagOf K ls P == some (lamQ x) | none => false
theorem walkTL {l : PySem.W.OpenLaw} {n k : Nat} {q : Program} {loose : List Str} {XP : (Str → Option Value) → Heap → Prop} {YP : World → Heap → Prop} {d : DefRec} {K : Params → PySem.W.Frag} {x : Str} {sp : PySem.W.Frag → List GQ → List GQ → Sp} (ds ls : List Str)
    (hn : l.most = some n) (hn2 : n ≤ sizeLine) (hdf : d.params.defaults = []) (hr : Room k callerA) (hY : ∀ (w : World) (h : Heap), YP w h → (K w.params).In h) (hds : ∀ n ∈ ds, ∃ d ∈ recsOf q, d.name = n) (hls : ∀ n ∈ ls, ∃ d ∈ recsOf q, d.name = n) (hK : ∀ P, kOk (K P) = true) (hA : ∀ P, apartT (K P) ds ls = true)
    (F : ∀ (w : World) (mg : Str → Option Value) (fa : Addr) (h : Heap), (K w.params).In h → h.Ns mainGlobals mg → mg d.name = some (.ref fa) →
      ∃ fd : FuncData, (∀ (s : Shared) (u : Value), BindsTo s fd ⟨[u], []⟩ [(x, u)]) ∧
        ∀ (base : Heap) (bm : Addr) (ob : Obj) (gs gl : List GQ), gs.map (·.1) = ds → gl.map (·.1) = ls → (K w.params).In base → base.Ns mainGlobals mg → BMod base mainGlobals mg bm ob → (∀ q ∈ gs, GB (K w.params) base mg q) → (∀ q ∈ gl, GB (K w.params) base mg q) → FnOk l.prog w (K w.params) mg base CX0 k fa fd [x] (sp (K w.params) gs gl))
    (hsp : ∀ (K : PySem.W.Frag) (gs gl : List GQ) (H : Hp) (a : Addr) (o : Obj) (ns : List Int), ns.length ≤ n → H a = some (.frz o (.lst (ns.map V.int))) → (∀ q ∈ gs, H q.2.2.2 = some (.tbl #[])) → (∀ q ∈ gl, H q.2.2.2 = some (LTb (lamQ q.1) #[])) → sp K gs gl [.ref a] H (fun v _ => v = .bl true) E0)
    (hne : ∀ n ∈ ds, n ≠ "Walker.around" := by decide) (hnl : ∀ n ∈ ls, n ≠ "Walker.around" := by decide) :
    PySem.W.WalkO q loose XP YP l.row.toRowW d [] (fun f vs => PySem.call f vs) := by
  refine Att.attach_call hn hdf fun w s₀ s₁ mg mb fa o pm cd doc a vs ns G Y ho hd hcd hmg hobj hints hlen hg => ?_
  have KX := hY w _ Y
  obtain ⟨fd, hb, hF⟩ := F w mg fa _ KX G.T.g hmg
  obtain ⟨bm, ob, hM⟩ := PySem.W.bmod_of_top G.T
  obtain ⟨gs, hgs, hT⟩ := tabs_of (K := K w.params) G.T ds hds hne
  obtain ⟨gl, hgl, hTl⟩ := tabs_of (K := K w.params) G.T ls hls hnl
  have ap := hA w.params
  unfold apartT at ap
  simp only [Bool.and_eq_true, List.all_eq_true] at ap
  obtain ⟨ap1, ap2⟩ := ap
  have t1 : ∀ q ∈ gs, tagOf (K w.params) ls q.2.2.2 = none := fun q hq => by
    have hm : q.1 ∈ ds := by rw [← hgs]; exact List.mem_map_of_mem hq
    have := ap1 _ hm
    split at this
    · rename_i P e
      rw [tabP_of KX G.T.g (hT q hq) (hne _ hm) e]
      exact Option.isNone_iff_eq_none.mp this
    · cases this
  have t2 : ∀ q ∈ gl, tagOf (K w.params) ls q.2.2.2 = some (lamQ q.1) := fun q hq => by
    have hm : q.1 ∈ ls := by rw [← hgl]; exact List.mem_map_of_mem hq
    have := ap2 _ hm
    split at this
    · rename_i P e
      rw [tabP_of KX G.T.g (hTl q hq) (hnl _ hm) e]
      exact eq_of_beq this
    · cases this
  exact law_callT (tagOf (K w.params) ls) (l := gs ++ gl) KX G.T.g G.T.b G.T.builtins G.T.nolimit hg hM (fun q hq => (List.mem_append.mp hq).elim (hT q) (hTl q)) (hK _) hobj hints (Nat.le_trans hlen hn2) hr
    (fun base h1 h2 h3 h4 => hF base bm ob gs gl hgs hgl h1 h2 h3 (fun q hq => h4 q (List.mem_append_left _ hq)) fun q hq => h4 q (List.mem_append_right _ hq)) hb fun H h1 h2 => hsp _ gs gl H a _ ns hlen h1
    (fun q hq => by rw [h2 q (List.mem_append_left _ hq), t1 q hq]) fun q hq => by rw [h2 q (List.mem_append_right _ hq), t2 q hq]
theorem law_spL {G : GG} {F : List D → Option SV} {gs gl : List GQ} {H : Hp} {a : Addr} {o : Obj} {ns : List Int} (hl : ns.length ≤ 63) (h1 : H a = some (.frz o (.lst (ns.map V.int)))) (h2 : ∀ q ∈ gs, H q.2.2.2 = some (.tbl #[])) (h3 : ∀ q ∈ gl, H q.2.2.2 = some (LTb (lamQ q.1) #[])) (hF : ∀ ns : List Int, ns.length ≤ 63 → F [.frz (ns.map D.int)] = some (.sh (.bl true))) (ht : G.tabs = tabsOf gs := by rfl) (hlt : G.ltabs = ltabsOf gl := by rfl) :
    uSp G 1 F [.ref a] H (fun v _ => v = .bl true) E0 := by
  refine ⟨fun _ => False, [.frz (ns.map D.int)], _, rfl, fun _ z => z.elim, ⟨fun P hP => ?_, fun p hp => ?_⟩, .cons (.frz h1 (Reps.ints ns)) .nil, hF ns hl, fun v H' _ r => ?_⟩
  · rw [ht] at hP
    obtain ⟨q, hq, rfl⟩ := List.mem_map.mp hP
    exact ⟨#[], h2 q hq, by simp [TriplesOk]⟩
  · rw [hlt] at hp
    obtain ⟨q, hq, rfl⟩ := List.mem_map.mp hp
    exact ⟨#[], h3 q hq, by simp [TriplesOk], fun pos cv e => by simp [codeAmong] at e⟩
  · cases r; rfl
end U
end
section
set_option Elab.async false
set_option linter.all false
set_option maxRecDepth 100000
set_option maxHeartbeats 1000000
/-! Which classes an exception is of, as the written part says. -/
namespace U
open PySem PySem.Spec L2 PyProof.Rows
def KdCl (mg : Str → Option Value) (n : Str) (D : Value) : Prop := mg n = some D ∨ (mg n = none ∧ bootBuiltins n = some D)
def KdL (K : PySem.W.Frag) (mg : Str → Option Value) (C : Addr) : List (Str × Bool) → Prop
  | [] => True
  | p :: r => (∃ D, KdCl mg p.1 D ∧ PySem.W.kitOne K (.ref C) D = some p.2) ∧ KdL K mg C r
structure KdX (K : PySem.W.Frag) (mg : Str → Option Value) (hn y : Str) (nb : List (Str × Bool)) : Prop where
  ex : ∃ C Dh, mg y = some (.ref C) ∧ mg hn = some (.ref Dh) ∧ PySem.W.exmOne K (.ref C) (.ref Dh) = some true ∧ PySem.W.XCls K C ∧ KdL K mg C nb
section
variable {K : PySem.W.Frag} {h : Heap} {mg : Str → Option Value} {C Dh : Addr} {n y hn : Str} {D : Value} {b : Bool} {r nb : List (Str × Bool)}
theorem kdl_nil : KdL K mg C [] := True.intro
theorem kdl_own (X : K.In h) (Gn : h.Ns mainGlobals mg) (a : PySem.W.nsIn K mainGlobals n = some (some D)) (k : PySem.W.kitOne K (.ref C) D = some b) (q : KdL K mg C r) : KdL K mg C ((n, b) :: r) := ⟨⟨D, .inl (PySem.W.mg_of X Gn a), k⟩, q⟩
theorem kdl_blt (X : K.In h) (Gn : h.Ns mainGlobals mg) (a : PySem.W.nsIn K mainGlobals n = some none) (e : bootBuiltins n = some D) (k : PySem.W.kitOne K (.ref C) D = some b) (q : KdL K mg C r) : KdL K mg C ((n, b) :: r) := ⟨⟨D, .inr ⟨PySem.W.mg_none_of X Gn a, e⟩, k⟩, q⟩
theorem kdx_mk (X : K.In h) (Gn : h.Ns mainGlobals mg) (a : PySem.W.nsIn K mainGlobals y = some (some (.ref C))) (a2 : PySem.W.nsIn K mainGlobals hn = some (some (.ref Dh))) (e : PySem.W.exmOne K (.ref C) (.ref Dh) = some true)
    (h1 : PySem.W.findIn K (.ref C) "__getattribute__" = some (some (.builtin "BaseException.__getattribute__"))) (h2 : PySem.W.findIn K (.ref C) "__getattr__" = some none) (h3 : PySem.W.findIn K (.ref C) "__class__" = some (some (.builtin "object.__class__")))
    (h4 : PySem.W.specialIn K (.builtin "object.__class__") "__get__" = some (some (.builtin "getset_descriptor.__get__"))) (h5 : PySem.W.takesIn K (.builtin "object.__class__") = some true) (h6 : PySem.W.mroIn K C (.type "object") = some true) (h7 : PySem.W.mroIn K C (.type "BaseException") = some true) (l : KdL K mg C nb) : KdX K mg hn y nb :=
  ⟨C, Dh, PySem.W.mg_of X Gn a, PySem.W.mg_of X Gn a2, e, ⟨h1, h2, h3, h4, h5, h6, h7⟩, l⟩
end
section
variable {X : Cx} {ea C : Addr} {ob : Obj} {b : Bool} {en n : Str} {bs : List Bool} {es : List Expr} {ip np bp icp : Pos}
theorem ld_cl {D : Value} {p : Pos} (c : KdCl X.mg n D) (hg : L2.Gl X n) (hd : (n == ("__debug__" : Str)) = false) (hn : n ≠ "__name__") :
    ∀ (pins : List (Addr × Obj)) (σ : L2.St) (H : Hp) (s : Shared) (Q : Value → Shared → Prop), Inv X pins σ H s → Q D s → wpAny (model X.prog X.w) X.A (eval (.Name n p) X.env) Q X.xe s := fun pins σ H s Q I q => by
  rcases c with c | ⟨c, e⟩
  · exact ld_glob I hg c q hd
  · exact ld_blt I hg c e q hn hd
theorem ka_step (hpn : (ea, ob) ∈ X.pn) (hoc : ob.cls = .ref C) (xc : PySem.W.XCls X.K C) (hmi : X.mg "isinstance" = none) (p : ∃ D, KdCl X.mg n D ∧ PySem.W.kitOne X.K (.ref C) D = some b) (hr : KA X ea es bs) (hN : X.N[0]? = some en := by rfl) (hgn : L2.Gl X n := by rfl) (hdn : (n == ("__debug__" : Str)) = false := by decide) (hnn : n ≠ "__name__" := by decide) (hgi : L2.Gl X "isinstance" := by rfl) (hv : Vis X.env.scope en := by first | exact Or.inl rfl | exact Or.inr (Or.inl rfl) | exact Or.inr (Or.inr rfl)) (hd : (en == ("__debug__" : Str)) = false := by decide) (hcd : (en == ("__classdict__" : Str)) = false := by decide)
    (he1 : starEach [.Name en np, .Name n bp] X.env = (false, eval (.Name en np) X.env) :: starEach [.Name n bp] X.env := by rfl) (he2 : starEach [.Name n bp] X.env = (false, eval (.Name n bp) X.env) :: starEach [] X.env := by rfl) (hpl : (backTo icp (starEach [.Name n bp] X.env)).any (·.1) = false := by rfl)
    (hs : starEach (.Call (.Name "isinstance" ip) [.Name en np, .Name n bp] [] icp :: es) X.env = (false, eval (.Call (.Name "isinstance" ip) [.Name en np, .Name n bp] [] icp) X.env) :: starEach es X.env := by rfl) :
    KA X ea (.Call (.Name "isinstance" ip) [.Name en np, .Name n bp] [] icp :: es) (b :: bs) := by
  obtain ⟨D, c, k⟩ := p
  exact ka_cons (pe_isxG hpn hoc xc hmi k hN (ld_cl c hgn hdn hnn) hgi hv hd hcd he1 he2 hpl) hr hs
/-- return e, e ends in an exception -/
theorem ur_ret {G : GG} {E : XK} {e : Expr} {R : DS → Option Str} {pos : Pos} (he : URe G X E e R) : URt G X E (.Return (some e) pos) R := ⟨PS.weak (ps_ret he.pe) fun D σ H h => h⟩
end
end U
end
section
set_option Elab.async false
set_option linter.all false
set_option maxRecDepth 100000
set_option maxHeartbeats 1000000
/-! C(..).m(..): a changing method of a new object. -/
namespace U
open PySem PySem.Spec L2 PyProof.Rows
def uMkGo (fo : ULf) (F : MF) (fs : ULf) : UEf := fun δ => match fo δ with
  | some ds => (match fs δ with
    | some xs => (match F ds xs with
      | some (_, d) => if flats xs && d.flat then some d else none
      | none => none)
    | none => none)
  | none => none
section
variable {G : GG} {X : Cx} {o e : Expr} {es : List Expr} {fo fs : ULf} {Bo B : List Nat} {pos apos : Pos} {k j n ci : Nat} {F : MF} {m : Str}
theorem u_mkgo {pl : Sem Bool} (hF : MeM X.prog X.w X.K X.mg X.base G ci m j n F) (hr : Room k X.A) (hj : j ≤ k) (ho : UN G X o ci fo Bo) (ha : UA G X (e :: es) fs B) (hl : HasLen fs n)
    (hst : starEach (e :: es) X.env = (false, eval e X.env) :: starEach es X.env := by rfl) (hpl : (backTo pos (starEach es X.env)).any (·.1) = false := by rfl)
    (ht : eval (.Call (.Attribute o m apos) (e :: es) [] pos) X.env = (do
      let ov ← eval o X.env
      standAt apos.atName
      let (f, first) ← holding [ov] (getMethod ov m pl)
      callWith pos f first (backTo pos (starEach (e :: es) X.env)) (backToKw pos (keywordEach [] X.env))) := by rfl) :
    UE G X (.Call (.Attribute o m apos) (e :: es) [] pos) (uMkGo fo F fs) [] := by
  obtain ⟨fa, fd, ps, M, FF, hb⟩ := hF.ex
  refine ⟨PE.weak (pe_meth (CX := CX0) (E := E0) (dvs := []) ho.pe hF.cl M FF (hr.mono hj) hb .nil pass0 ha.pa hst hpl ht) fun σ H Q ⟨He, S0, P, own, δ, d, ok, hf, kk⟩ => ?_⟩
  unfold uMkGo at hf
  split at hf
  · rename_i ds e1
    split at hf
    · rename_i xs e2
      split at hf
      · rename_i ds' d' hFr
        split at hf
        · rename_i hfx
          cases hf
          obtain ⟨hfx, hfl⟩ := Bool.and_eq_true_iff.mp hfx
          refine ⟨He, S0, P, own, δ, ds, ok, e1, fun N a dx vs H1 k1 hN hNa hins hlv rf o1 => ?_⟩
          refine ⟨a, dx, _, rfl, hins, lookup_none hF.nf, He, S0, P, own, δ, xs, ok.keep k1, e2, fun us H2 k2 r2 => ?_⟩
          show spM G ci n F (V.ref a :: (us ++ [])) H2 _ E0
          rw [List.append_nil]
          have ok2 := (ok.keep k1).keep k2
          refine ⟨S0, N, a, dx, vs, us, ds, xs, ds', d, rfl, by rw [r2.length]; exact hl δ xs e2, fun b z => ok2.avSome (B := []) (.inl z), fun b z => ⟨fun q => ok.avSome (B := []) (.inl q) (hN b z).1, (hN b z).2.keep k2⟩, ok2.tab.keep ok2.kp, hNa, k2.at hins (fun _ e => by cases e), hlv, (rf.mono (fun b z _ => z.imp .inl id) fun b z => z).keep k2, o1, r2.flt hfx _ _, hFr, hfl, fun N' dx' ws' H' v kp _ _ _ _ _ _ rv => kk v H' (Keep.trans ((k1.trans k2).into (fun b z => delS_out fun q => z (hN b q).1) fun b o z => ?_) kp) (rv.flat hfl _ _)⟩
          by_cases q : N b
          · rcases (hN b q).2.keep k2 with ⟨xs, h⟩ | ⟨C, dx, fs, h, _⟩ <;> rw [h] at z <;> cases z
          · rw [delS_out q]; exact z
        · cases hf
      · cases hf
    · cases hf
  · cases hf
end
/-- a slice of the script -/
def uCutF (f : UEf) (lo hi : UOf) : ULf := fun δ => match f δ, lo δ, hi δ with
  | some (.frz xs), some l, some h => some (cutD xs l h)
  | _, _, _ => none
section
variable {G : GG} {X : Cx} {a : Expr} {f : UEf} {Ba : List Nat} {pos : Pos}
theorem ul_sliceF {lo hi : Option Expr} {fl fh : UOf} {p2 : Pos} (ha : UE G X a f Ba) (hl : UO G X lo fl) (hh : UO G X hi fh) : UL G X (.Subscript a (.Slice lo hi none p2) pos) (uCutF f fl fh) Ba := ⟨PE.weak (pe_slice sl_list ha.pe hl.po hh.po) fun σ H Q ⟨He, S0, P, own, δ, ds, ok, hf, k⟩ => by
  unfold uCutF at hf
  split at hf
  · rename_i xs l u h1 h2 h3
    cases hf
    refine ⟨He, S0, P, own, δ, _, ok, h1, fun v H1 k1 r1 => ⟨He, S0, P, own, δ, _, ok.keep k1, h2, fun H2 k2 => ⟨He, S0, P, own, δ, _, ok.keep (k1.trans k2), h3, fun H3 k3 => ?_⟩⟩⟩
    cases r1 with
    | frz hh rr =>
      have k23 := k2.trans k3
      refine ⟨_, _, rfl, .inl (k23.rdl (.inr ⟨_, hh⟩)), fun p hp => ?_⟩
      rw [cut_eq]
      exact new_list ok (k1.trans k23) ((rr.keep k23).cut l u) hp k
  · cases hf⟩
end
def spLL (F : List D → Option SV) (K : PySem.W.Frag) (gs gl : List GQ) : Sp := fun vs H Q E => ∀ G : GG, G.K = K → G.tabs = tabsOf gs → G.ltabs = ltabsOf gl → uSp G 1 F vs H Q E
theorem lamE_mono {P : Program} {w : World} {K : PySem.W.Frag} {mg : Str → Option Value} {base : Heap} {G : GG} {n j k : Nat} {R : List D → Option Str} (h : LamE P w K mg base G n j R) (hj : j ≤ k) : LamE P w K mg base G n k R := ⟨h.fn, fun A outer s H a S0 u v d y Q E hr => h.run A outer s H a S0 u v d y Q E (hr.mono hj)⟩
theorem lamE_none {P : Program} {w : World} {K : PySem.W.Frag} {mg : Str → Option Value} {base : Heap} {G : GG} {L : Nat → LamI} {n k : Nat} (hx : G.exs = lamEx L) : LamE P w K mg base G n k (fun _ => none) := ⟨fun H a o he h => by
    rw [hx] at he
    obtain ⟨c', ctv, pm, h1, _⟩ := he
    rw [h] at h1
    cases h1
    exact ⟨_, _, _, _, rfl⟩, fun A outer s H a S0 u v d y Q E hr e0 he hu hs ht rv hR hE => by cases hR⟩
/-- the lambdas of a def, in order -/
def lamsE : Nat → Expr → List Expr
  | 0, _ => []
  | k + 1, e => match e with
    | .Lambda _ _ _ _ => [e]
    | .List es _ => es.flatMap (lamsE k)
    | .BinOp a _ b _ => lamsE k a ++ lamsE k b
    | .UnaryOp _ a _ => lamsE k a
    | .BoolOp _ es _ => es.flatMap (lamsE k)
    | .Call f es _ _ => lamsE k f ++ es.flatMap (lamsE k)
    | _ => []
def lamsS : Nat → Stmt → List Expr
  | 0, _ => []
  | k + 1, s => match s with
    | .Assign _ e _ => lamsE k e
    | .Expr e _ => lamsE k e
    | .Return (some e) _ => lamsE k e
    | .If c a b _ => lamsE k c ++ (a.flatMap (lamsS k) ++ b.flatMap (lamsS k))
    | .For _ e b _ _ => lamsE k e ++ b.flatMap (lamsS k)
    | _ => []
def lamsD (x : Str) (s : Stmt) : List LamI := ((defBody s).flatMap (lamsS 12)).map (lamOf (lamQ x))
end U
end
section
set_option Elab.async false
set_option linter.all false
set_option maxRecDepth 100000
/-! The pure words of the defs. -/
namespace U
open PySem
def c_are_steps_k14 : US := (uSeq (uIfS (uOr (uNot (uB (uUn (dIsT "list") (uVar 0)))) (uNot (uB (uCh (fun i j => decide (i ≤ j)) (fun i j => decide (i ≤ j)) (uC (.int 1)) (uFn bLen (uCons (uVar 0) uNil)) (uC (.int 6)))))) (uRet (uC (.bl false))) uNext) (uRet (uAndV (uGA true (uAs (uVar 0)) [0] (gVar 1) (uCall F_is_within (uCons (uVar 1) (uCons (uC (.int 1)) (uCons (uC (.int 60)) uNil)))) [1]) (uCall F_is_rising (uCons (uVar 0) uNil)))))
@[irreducible] def F_are_steps_k14 : List D → Option SV := runD c_are_steps_k14 0 2
def r_check_ring : DS → Option Str := (rIf (uNot (uB (uCall F_is_ring (uCons (uVar 0) uNil)))) "BadRing")
@[irreducible] def R_check_ring : List D → Option Str := fun ds => r_check_ring (startD 1 ds)
def c_check_steps_k14 : US := (uIfS (uNot (uB (uCall F_are_steps_k14 (uCons (uVar 0) uNil)))) uNever uNext)
@[irreducible] def F_check_steps_k14 : List D → Option SV := runD c_check_steps_k14 0 1
def r_check_steps : DS → Option Str := (rIf (uNot (uB (uCall F_are_steps_k14 (uCons (uVar 0) uNil)))) "BadSteps")
@[irreducible] def R_check_steps : List D → Option Str := fun ds => r_check_steps (startD 1 ds)
def r_check_place : DS → Option Str := (rIf (uNot (uB (uCall F_is_place (uCons (uVar 0) (uCons (uVar 1) uNil))))) "BadPlace")
@[irreducible] def R_check_place : List D → Option Str := fun ds => r_check_place (startD 2 ds)
def c_check_told_k14 : US := (uSeq (uDrop (uCall F_check_ring (uCons (uVar 0) uNil))) (uSeq (uDrop (uCall F_check_steps_k14 (uCons (uVar 1) uNil))) (uFor (uAs (uVar 2)) [2] (gVar 3) (uDrop (uCall F_check_place (uCons (uVar 0) (uCons (uVar 3) uNil)))))))
@[irreducible] def F_check_told_k14 : List D → Option SV := runD c_check_told_k14 0 4
def r_check_told : DS → Option Str := (rAlt (rCall R_check_ring (uCons (uVar 0) uNil)) (rNext 0 (uDrop (uCall F_check_ring (uCons (uVar 0) uNil))) (rAlt (rCall R_check_steps (uCons (uVar 1) uNil)) (rNext 0 (uDrop (uCall F_check_steps_k14 (uCons (uVar 1) uNil))) (rFor (uAs (uVar 2)) [2] (gVar 3) (rCall R_check_place (uCons (uVar 0) (uCons (uVar 3) uNil))) (uDrop (uCall F_check_place (uCons (uVar 0) (uCons (uVar 3) uNil)))) 0)))))
@[irreducible] def R_check_told : List D → Option Str := fun ds => r_check_told (startD 4 ds)
def c_told_k14 : US := (uSeq (uDrop (uCall F_check_told_k14 (uCons (uVar 0) (uCons (uVar 1) (uCons (uList (uSm (uCons (uVar 2) (uCons (uVar 3) uNil)))) uNil))))) (uSeq (uSetL 4 (uCallL F_fewest (uCons (uVar 0) (uCons (uVar 1) (uCons (uVar 2) uNil)))) ([0] ++ ([1] ++ ([2] ++ [])))) (uSeq (uIfS (uB (uUn (fun x => some (.bl (dIsN x))) (uOp dIx (uVar 4) (uVar 3)))) (uRet (uMake 1 1 (uCons (uCall F_common_part (uCons (uList (uSm (uCons (uVar 0) (uStar (uVar 1) uNil)))) uNil)) uNil))) uNext) (uRetO 0 (uNew (cInit F_copied) (uCons (uList (uCallL F_way_to (uCons (uVar 0) (uCons (uVar 1) (uCons (uVar 4) (uCons (uVar 3) uNil)))))) (uCons (uList (uCallL F_heights_of (uCons (uVar 4) uNil))) uNil)))))))
@[irreducible] def F_told_k14 : List D → Option SV := runD c_told_k14 0 5
def r_told : DS → Option Str := (rCall R_check_told (uCons (uVar 0) (uCons (uVar 1) (uCons (uList (uSm (uCons (uVar 2) (uCons (uVar 3) uNil)))) uNil))))
@[irreducible] def R_told : List D → Option Str := fun ds => r_told (startD 5 ds)
def c_nearest_k14 : US := (uSeq (uDrop (uCall F_check_told_k14 (uCons (uVar 0) (uCons (uVar 1) (uCons (uList (uSm (uCons (uVar 2) uNil))) uNil))))) (uRetL (uCallL F_fewest (uCons (uVar 0) (uCons (uVar 1) (uCons (uVar 2) uNil))))))
@[irreducible] def F_nearest_k14 : List D → Option SV := runD c_nearest_k14 0 3
def r_nearest : DS → Option Str := (rCall R_check_told (uCons (uVar 0) (uCons (uVar 1) (uCons (uList (uSm (uCons (uVar 2) uNil))) uNil))))
@[irreducible] def R_nearest : List D → Option Str := fun ds => r_nearest (startD 3 ds)
def c_far_k14 : US := (uSeq (uDrop (uCall F_check_ring (uCons (uVar 0) uNil))) (uSeq (uDrop (uCall F_check_steps_k14 (uCons (uVar 1) uNil))) (uSeq (uSetL 2 (uCallL F_fewest (uCons (uVar 0) (uCons (uVar 1) (uCons (uC (.int 0)) uNil)))) ([0] ++ ([1] ++ ([] ++ [])))) (uRet (uIf (uB (uOp dIn (uC .non) (uVar 2))) (uC .non) (uFn bMax (uCons (uVar 2) uNil)))))))
@[irreducible] def F_far_k14 : List D → Option SV := runD c_far_k14 0 3
def r_far : DS → Option Str := (rAlt (rCall R_check_ring (uCons (uVar 0) uNil)) (rNext 0 (uDrop (uCall F_check_ring (uCons (uVar 0) uNil))) (rCall R_check_steps (uCons (uVar 1) uNil))))
@[irreducible] def R_far : List D → Option Str := fun ds => r_far (startD 3 ds)
def r_after : DS → Option Str := (rCall R_check_told (uCons (uVar 0) (uCons (uVar 1) (uCons (uList (uSm (uCons (uVar 2) uNil))) uNil))))
@[irreducible] def R_after : List D → Option Str := fun ds => r_after (startD 7 ds)
def r_every : DS → Option Str := (rAlt (rCall R_check_ring (uCons (uVar 0) uNil)) (rNext 0 (uDrop (uCall F_check_ring (uCons (uVar 0) uNil))) (rCall R_check_steps (uCons (uVar 1) uNil))))
@[irreducible] def R_every : List D → Option Str := fun ds => r_every (startD 3 ds)
def r_check_room : DS → Option Str := (rIf (uB (uOp dGe (uFn bLen (uCons (uVar 0) uNil)) (uC (.int 6)))) "BadSteps")
@[irreducible] def R_check_room : List D → Option Str := fun ds => r_check_room (startD 1 ds)
def r_check_small_ring : DS → Option Str := (rIf (uNot (uB (uCall F_is_within (uCons (uVar 0) (uCons (uC (.int 1)) (uCons (uC (.int 8)) uNil)))))) "BadRing")
@[irreducible] def R_check_small_ring : List D → Option Str := fun ds => r_check_small_ring (startD 1 ds)
def r_added : DS → Option Str := (rAlt (rCall R_check_ring (uCons (uVar 0) uNil)) (rNext 0 (uDrop (uCall F_check_ring (uCons (uVar 0) uNil))) (rAlt (rCall R_check_steps (uCons (uVar 1) uNil)) (rNext 0 (uDrop (uCall F_check_steps_k14 (uCons (uVar 1) uNil))) (rCall R_check_room (uCons (uVar 1) uNil))))))
@[irreducible] def R_added : List D → Option Str := fun ds => r_added (startD 7 ds)
def r_twos : DS → Option Str := (rCall R_after (uCons (uVar 0) (uCons (uVar 1) (uCons (uC (.int 0)) (uCons (uC (.int 2)) uNil)))))
@[irreducible] def R_twos : List D → Option Str := fun ds => r_twos (startD 2 ds)
def r_told_back : DS → Option Str := (rCall R_check_small_ring (uCons (uVar 0) uNil))
@[irreducible] def R_told_back : List D → Option Str := fun ds => r_told_back (startD 3 ds)
def r_how_many : DS → Option Str := (rCall R_check_told (uCons (uVar 0) (uCons (uVar 1) (uCons (uList (uSm (uCons (uVar 2) (uCons (uVar 3) uNil)))) uNil))))
@[irreducible] def R_how_many : List D → Option Str := fun ds => r_how_many (startD 5 ds)
def r_way_by_k14 : DS → Option Str := (rCall R_check_told (uCons (uVar 0) (uCons (uVar 1) (uCons (uList (uSm (uCons (uVar 2) (uCons (uVar 3) uNil)))) uNil))))
@[irreducible] def R_way_by_k14 : List D → Option Str := fun ds => r_way_by_k14 (startD 12 ds)
def r_number_of : DS → Option Str := (rAlt (rCall R_check_ring (uCons (uVar 0) uNil)) (rNext 0 (uDrop (uCall F_check_ring (uCons (uVar 0) uNil))) (rCall R_check_steps (uCons (uVar 1) uNil))))
@[irreducible] def R_number_of : List D → Option Str := fun ds => r_number_of (startD 8 ds)
def r_judged : DS → Option Str := (rCall R_check_told (uCons (uVar 0) (uCons (uVar 1) (uCons (uList (uSm (uCons (uVar 2) uNil))) uNil))))
@[irreducible] def R_judged : List D → Option Str := fun ds => r_judged (startD 5 ds)
def r_Walker : DS → Option Str := (rCall R_check_told (uCons (uVar 1) (uCons (uVar 2) (uCons (uList (uSm (uCons (uVar 3) uNil))) uNil))))
@[irreducible] def R_Walker : List D → Option Str := fun ds => r_Walker ((startD 4 (.non :: ds)).set 0 none)
def kd_14 : Str → Option (List Bool) := fun y => if y = "BadRing" then some [true, false, false, false, false, false, false, false, false, false, true] else if y = "BadSteps" then some [false, true, false, false, false, false, false, false, false, false, true] else if y = "BadPlace" then some [false, false, true, false, false, false, false, false, false, false, true] else none
def r_lam14_0 : DS → Option Str := rCall R_told (uCons (uC (.int 5)) (uCons (uVar 0) (uCons (uC .non) (uCons (uC .non) uNil))))
def r_lam14_1 : DS → Option Str := rCall R_nearest (uCons (uC (.int 1)) (uCons (uVar 0) (uCons (uC .non) uNil)))
def r_lam14_2 : DS → Option Str := rCall R_far (uCons (uC (.int 60)) (uCons (uVar 0) uNil))
def r_lam14_3 : DS → Option Str := rCall R_how_many (uCons (uC (.int 5)) (uCons (uVar 0) (uCons (uC .non) (uCons (uC .non) (uCons (uC .non) uNil)))))
def r_lam14_4 : DS → Option Str := rCall R_way_by_k14 (uCons (uC (.int 9)) (uCons (uVar 0) (uCons (uC (.int 1)) (uCons (uC (.int 1)) (uCons (uC (.int 1)) (uCons (uC (.int 1)) uNil))))))
def r_lam14_5 : DS → Option Str := rCall R_number_of (uCons (uC (.int 5)) (uCons (uVar 0) (uCons (uC .non) uNil)))
def r_lam14_6 : DS → Option Str := rCall R_after (uCons (uC (.int 9)) (uCons (uVar 0) (uCons (uC .non) (uCons (uC .non) uNil))))
def r_lam14_7 : DS → Option Str := rCall R_every (uCons (uC (.int 5)) (uCons (uVar 0) uNil))
def r_lam14_8 : DS → Option Str := rCall R_added (uCons (uC (.int 9)) (uCons (uVar 0) uNil))
def r_lam14_9 : DS → Option Str := rCall R_twos (uCons (uC (.int 1)) (uCons (uVar 0) uNil))
def r_lam14_10 : DS → Option Str := rCall R_judged (uCons (uC (.int 5)) (uCons (uVar 0) (uCons (uC .non) (uCons (uC .non) uNil))))
def r_lam14_11 : DS → Option Str := rCall R_Walker (uCons (uC (.int 9)) (uCons (uVar 0) (uCons (uC .non) uNil)))
def r_lam14_12 : DS → Option Str := rCall R_added (uCons (uC (.int 5)) (uCons (uVar 0) uNil))
def r_lam14_13 : DS → Option Str := rCall R_told (uCons (uC (.int 5)) (uCons (uList (uSm (uCons (uC (.int 1)) uNil))) (uCons (uVar 0) (uCons (uC .non) uNil))))
def r_lam14_14 : DS → Option Str := rCall R_told (uCons (uC (.int 5)) (uCons (uList (uSm (uCons (uC (.int 1)) uNil))) (uCons (uC (.int 4)) (uCons (uVar 0) uNil))))
def r_lam14_15 : DS → Option Str := rCall R_nearest (uCons (uC (.int 5)) (uCons (uList (uSm (uCons (uC (.int 1)) uNil))) (uCons (uVar 0) uNil)))
def r_lam14_16 : DS → Option Str := rCall R_how_many (uCons (uC (.int 5)) (uCons (uList (uSm (uCons (uC (.int 1)) uNil))) (uCons (uVar 0) (uCons (uC (.int 9)) (uCons (uC .non) uNil)))))
def r_lam14_17 : DS → Option Str := rCall R_how_many (uCons (uC (.int 5)) (uCons (uList (uSm (uCons (uC (.int 1)) uNil))) (uCons (uC (.int 0)) (uCons (uVar 0) (uCons (uC .non) uNil)))))
def r_lam14_18 : DS → Option Str := rCall R_way_by_k14 (uCons (uC (.int 5)) (uCons (uList (uSm (uCons (uC (.int 1)) uNil))) (uCons (uVar 0) (uCons (uC (.int 9)) (uCons (uC (.int 1)) (uCons (uC (.int 1)) uNil))))))
def r_lam14_19 : DS → Option Str := rCall R_way_by_k14 (uCons (uC (.int 5)) (uCons (uList (uSm (uCons (uC (.int 1)) uNil))) (uCons (uC (.int 0)) (uCons (uVar 0) (uCons (uC .non) (uCons (uC .non) uNil))))))
def r_lam14_20 : DS → Option Str := rCall R_after (uCons (uC (.int 5)) (uCons (uList (uSm (uCons (uC (.int 1)) uNil))) (uCons (uVar 0) (uCons (uC .non) uNil))))
def r_lam14_21 : DS → Option Str := rCall R_judged (uCons (uC (.int 5)) (uCons (uList (uSm (uCons (uC (.int 1)) uNil))) (uCons (uVar 0) (uCons (uC .non) uNil))))
def r_lam14_22 : DS → Option Str := rCall R_Walker (uCons (uC (.int 5)) (uCons (uList (uSm (uCons (uC (.int 1)) uNil))) (uCons (uVar 0) uNil)))
def r_lam14_23 : DS → Option Str := rCall R_told (uCons (uC (.int 5)) (uCons (uList (uSm (uCons (uC (.int 1)) uNil))) (uCons (uVar 0) (uCons (uC (.int 4)) uNil))))
def r_lam14_24 : DS → Option Str := rCall R_how_many (uCons (uC (.int 5)) (uCons (uList (uSm (uCons (uC (.int 1)) uNil))) (uCons (uVar 0) (uCons (uC (.int 4)) (uCons (uC (.int 3)) uNil)))))
def r_lam14_25 : DS → Option Str := rCall R_way_by_k14 (uCons (uC (.int 5)) (uCons (uList (uSm (uCons (uC (.int 1)) uNil))) (uCons (uVar 0) (uCons (uC (.int 4)) (uCons (uC (.int 4)) (uCons (uC (.int 0)) uNil))))))
def r_lam14_26 : DS → Option Str := rCall R_told (uCons (uVar 0) (uCons (uC .non) (uCons (uC .non) (uCons (uC .non) uNil))))
def r_lam14_27 : DS → Option Str := rCall R_nearest (uCons (uVar 0) (uCons (uC .non) (uCons (uC .non) uNil)))
def r_lam14_28 : DS → Option Str := rCall R_far (uCons (uVar 0) (uCons (uC .non) uNil))
def r_lam14_29 : DS → Option Str := rCall R_how_many (uCons (uVar 0) (uCons (uC .non) (uCons (uC .non) (uCons (uC .non) (uCons (uC .non) uNil)))))
def r_lam14_30 : DS → Option Str := rCall R_way_by_k14 (uCons (uVar 0) (uCons (uC (.int 1)) (uCons (uC (.int 1)) (uCons (uC (.int 1)) (uCons (uC (.int 1)) (uCons (uC (.int 1)) uNil))))))
def r_lam14_31 : DS → Option Str := rCall R_number_of (uCons (uVar 0) (uCons (uC .non) (uCons (uC .non) uNil)))
def r_lam14_32 : DS → Option Str := rCall R_after (uCons (uVar 0) (uCons (uC .non) (uCons (uC .non) (uCons (uC .non) uNil))))
def r_lam14_33 : DS → Option Str := rCall R_every (uCons (uVar 0) (uCons (uC .non) uNil))
def r_lam14_34 : DS → Option Str := rCall R_added (uCons (uVar 0) (uCons (uC .non) uNil))
def r_lam14_35 : DS → Option Str := rCall R_twos (uCons (uVar 0) (uCons (uC .non) uNil))
def r_lam14_36 : DS → Option Str := rCall R_told_back (uCons (uVar 0) (uCons (uC .non) uNil))
def r_lam14_37 : DS → Option Str := rCall R_judged (uCons (uVar 0) (uCons (uC .non) (uCons (uC .non) (uCons (uC .non) uNil))))
def r_lam14_38 : DS → Option Str := rCall R_Walker (uCons (uVar 0) (uCons (uC .non) (uCons (uC .non) uNil)))
def r_lam14_39 : DS → Option Str := rCall R_told_back (uCons (uVar 0) (uCons (uC .non) uNil))
def RL_14 : Nat → List D → Option Str
  | 0 => fun ds => r_lam14_0 (startD 1 ds)
  | 1 => fun ds => r_lam14_1 (startD 1 ds)
  | 2 => fun ds => r_lam14_2 (startD 1 ds)
  | 3 => fun ds => r_lam14_3 (startD 1 ds)
  | 4 => fun ds => r_lam14_4 (startD 1 ds)
  | 5 => fun ds => r_lam14_5 (startD 1 ds)
  | 6 => fun ds => r_lam14_6 (startD 1 ds)
  | 7 => fun ds => r_lam14_7 (startD 1 ds)
  | 8 => fun ds => r_lam14_8 (startD 1 ds)
  | 9 => fun ds => r_lam14_9 (startD 1 ds)
  | 10 => fun ds => r_lam14_10 (startD 1 ds)
  | 11 => fun ds => r_lam14_11 (startD 1 ds)
  | 12 => fun ds => r_lam14_12 (startD 1 ds)
  | 13 => fun ds => r_lam14_13 (startD 1 ds)
  | 14 => fun ds => r_lam14_14 (startD 1 ds)
  | 15 => fun ds => r_lam14_15 (startD 1 ds)
  | 16 => fun ds => r_lam14_16 (startD 1 ds)
  | 17 => fun ds => r_lam14_17 (startD 1 ds)
  | 18 => fun ds => r_lam14_18 (startD 1 ds)
  | 19 => fun ds => r_lam14_19 (startD 1 ds)
  | 20 => fun ds => r_lam14_20 (startD 1 ds)
  | 21 => fun ds => r_lam14_21 (startD 1 ds)
  | 22 => fun ds => r_lam14_22 (startD 1 ds)
  | 23 => fun ds => r_lam14_23 (startD 1 ds)
  | 24 => fun ds => r_lam14_24 (startD 1 ds)
  | 25 => fun ds => r_lam14_25 (startD 1 ds)
  | 26 => fun ds => r_lam14_26 (startD 1 ds)
  | 27 => fun ds => r_lam14_27 (startD 1 ds)
  | 28 => fun ds => r_lam14_28 (startD 1 ds)
  | 29 => fun ds => r_lam14_29 (startD 1 ds)
  | 30 => fun ds => r_lam14_30 (startD 1 ds)
  | 31 => fun ds => r_lam14_31 (startD 1 ds)
  | 32 => fun ds => r_lam14_32 (startD 1 ds)
  | 33 => fun ds => r_lam14_33 (startD 1 ds)
  | 34 => fun ds => r_lam14_34 (startD 1 ds)
  | 35 => fun ds => r_lam14_35 (startD 1 ds)
  | 36 => fun ds => r_lam14_36 (startD 1 ds)
  | 37 => fun ds => r_lam14_37 (startD 1 ds)
  | 38 => fun ds => r_lam14_38 (startD 1 ds)
  | 39 => fun ds => r_lam14_39 (startD 1 ds)
  | _ => fun _ => none
def c__law_refused : US := (uSeq (uSetL 3 (uSm uNil) []) (uSeq (uTryF RL_14 kd_14 0 1 3 4) (uRet (uOp dEq (uVar 3) (uList (uSm (uCat (uList (uSm (uLc (uRange1 (uCons (uC (.int 10)) uNil)) [] (gVar 5) uYes (uOp dEq (uVar 5) (uVar 2)) [5]))) (uList (uSm (uCons (uC (.bl true)) uNil))))))))))
@[irreducible] def F__law_refused : List D → Option SV := runD c__law_refused 0 6
def c__law_all_k14 : US := (uSeq (uFor (uAs (uVar 0)) [0] (gVar 3) (uIfS (uNot (uB (uFn bAll (uCons (uList (uSm (uLc (uAs (uVar 1)) [1] (gVar 4) uYes (uCall F__law_refused (uCons (uVar 3) (uCons (uVar 4) (uCons (uVar 2) uNil)))) [4]))) uNil)))) (uRet (uC (.bl false))) uNext)) (uRet (uC (.bl true))))
@[irreducible] def F__law_all_k14 : List D → Option SV := runD c__law_all_k14 0 5
def c__law_strange : US := (uRetL (uSm (uCons (uC .non) (uCons (uC (.str "1")) (uCons (uC (.bl true)) (uCons (uC (.bl false)) (uCons (uList (uSm (uCons (uC (.int 1)) uNil))) (uCons (uTup (uSm (uCons (uC (.int 1)) uNil))) (uCons (uC .dct) (uCons (uUn dNeg (uC (.int 1))) (uCons (uOp dSub (uUn dNeg (uC (.int 1))) (uVar 0)) (uCons (uUn dNeg (uOp dPow2 (uOp dPow2 (uOp dPow (uC (.int 10)) (uC (.int 50))) (uC (.int 10))) (uC (.int 10)))) uNil))))))))))))
@[irreducible] def F__law_strange : List D → Option SV := runD c__law_strange 0 1
def c__law_no_steps : US := (uSeq (uSetL 1 (uSm (uCons (uC .non) (uCons (uC (.int 5)) (uCons (uC (.str "12")) (uCons (uTup (uSm (uCons (uC (.int 1)) (uCons (uC (.int 2)) uNil)))) (uCons (uC .dct) (uCons (uList (uSm uNil)) (uCons (uList (uSm (uCons (uC (.int 1)) (uCons (uC (.int 2)) (uCons (uC (.int 3)) (uCons (uC (.int 4)) (uCons (uC (.int 5)) (uCons (uC (.int 6)) (uCons (uC (.int 7)) uNil))))))))) (uCons (uList (uSm (uCons (uC (.int 0)) uNil))) (uCons (uList (uSm (uCons (uC (.int 61)) uNil))) (uCons (uList (uSm (uCons (uOp dAdd (uC (.int 61)) (uVar 0)) uNil))) (uCons (uList (uSm (uCons (uC (.int 2)) (uCons (uC (.int 1)) uNil)))) (uCons (uList (uSm (uCons (uC (.int 3)) (uCons (uC (.int 3)) uNil)))) (uCons (uList (uSm (uCons (uC (.int 1)) (uCons (uC (.int 2)) (uCons (uC (.int 2)) uNil))))) uNil)))))))))))))) ([] ++ ([] ++ ([] ++ (([] ++ ([] ++ [])) ++ ([] ++ ([] ++ (([] ++ ([] ++ ([] ++ ([] ++ ([] ++ ([] ++ ([] ++ []))))))) ++ (([] ++ []) ++ (([] ++ []) ++ ((([] ++ [0]) ++ []) ++ (([] ++ ([] ++ [])) ++ (([] ++ ([] ++ [])) ++ (([] ++ ([] ++ ([] ++ []))) ++ [])))))))))))))) (uSeq (uFor (uAs (uList (uSm (uCat (uList (uCallL F__law_strange (uCons (uVar 0) uNil))) (uList (uSm (uCons (uC (.int 0)) (uCons (uC (.int 61)) (uCons (uC .non) uNil))))))))) (([0] ++ []) ++ ([] ++ ([] ++ ([] ++ [])))) (gVar 2) (uSeq (uSet 3 (uOp dMod (uVar 0) (uC (.int 6))) ([0] ++ [])) (uSetL 1 (uSm (uCat (uVar 1) (uList (uSm (uCons (uList (uSm (uCons (uVar 2) uNil))) (uCons (uList (uSm (uCons (uC (.int 1)) (uCons (uVar 2) uNil)))) (uCons (uList (uSm (uCat (uList (uSm (uCat (uList (uCut (uList (uSm (uCons (uC (.int 10)) (uCons (uC (.int 20)) (uCons (uC (.int 30)) (uCons (uC (.int 40)) (uCons (uC (.int 50)) (uCons (uC (.int 60)) uNil)))))))) oNone (oSome (uVar 3)))) (uList (uSm (uCons (uVar 2) uNil)))))) (uList (uCut (uList (uSm (uCons (uC (.int 10)) (uCons (uC (.int 20)) (uCons (uC (.int 30)) (uCons (uC (.int 40)) (uCons (uC (.int 50)) (uCons (uC (.int 60)) uNil)))))))) (oSome (uOp dAdd (uVar 3) (uC (.int 1)))) oNone))))) uNil))))))) ([1] ++ (([2] ++ []) ++ (([] ++ ([2] ++ [])) ++ (((([] ++ ([] ++ ([] ++ ([] ++ ([] ++ ([] ++ [])))))) ++ ([2] ++ [])) ++ ([] ++ ([] ++ ([] ++ ([] ++ ([] ++ ([] ++ []))))))) ++ []))))))) (uSeq (uSetL 1 (uSm (uCat (uVar 1) (uList (uSm (uCons (uList (uSm (uCons (uC (.int 2)) (uCons (uC (.int 1)) (uCons (uC (.int 3)) uNil))))) (uCons (uList (uSm (uCons (uC (.int 1)) (uCons (uC (.int 1)) (uCons (uC (.int 2)) uNil))))) (uCons (uList (uSm (uCons (uC (.int 10)) (uCons (uC (.int 30)) (uCons (uC (.int 20)) (uCons (uC (.int 40)) (uCons (uC (.int 50)) (uCons (uC (.int 60)) uNil)))))))) uNil))))))) ([1] ++ (([] ++ ([] ++ ([] ++ []))) ++ (([] ++ ([] ++ ([] ++ []))) ++ (([] ++ ([] ++ ([] ++ ([] ++ ([] ++ ([] ++ [])))))) ++ []))))) (uRetL (uSm (uCat (uVar 1) (uList (uSm (uCons (uList (uSm (uCons (uC (.int 10)) (uCons (uC (.int 20)) (uCons (uC (.int 30)) (uCons (uC (.int 40)) (uCons (uC (.int 60)) (uCons (uC (.int 50)) uNil)))))))) (uCons (uList (uSm (uCons (uC (.int 10)) (uCons (uC (.int 20)) (uCons (uC (.int 30)) (uCons (uC (.int 40)) (uCons (uC (.int 50)) (uCons (uC (.int 50)) uNil)))))))) (uCons (uList (uSm (uCons (uC (.int 9)) (uCons (uC (.int 10)) (uCons (uC (.int 11)) (uCons (uC (.int 12)) (uCons (uC (.int 13)) (uCons (uC (.int 61)) uNil)))))))) uNil)))))))))))
@[irreducible] def F__law_no_steps : List D → Option SV := runD c__law_no_steps 0 4
def c__law_steps_right : US := (uSeq (uSetL 1 (uSm (uCons (uC (.ex 0)) (uCons (uC (.ex 1)) (uCons (uC (.ex 2)) uNil)))) ([] ++ ([] ++ ([] ++ [])))) (uSeq (uSetL 1 (uSm (uCat (uVar 1) (uList (uSm (uCons (uC (.ex 3)) (uCons (uC (.ex 4)) uNil)))))) ([1] ++ ([] ++ ([] ++ [])))) (uSeq (uSetL 1 (uSm (uCat (uVar 1) (uList (uSm (uCons (uC (.ex 5)) (uCons (uC (.ex 6)) uNil)))))) ([1] ++ ([] ++ ([] ++ [])))) (uSeq (uSetL 1 (uSm (uCat (uVar 1) (uList (uSm (uCons (uC (.ex 7)) (uCons (uC (.ex 8)) (uCons (uC (.ex 9)) uNil))))))) ([1] ++ ([] ++ ([] ++ ([] ++ []))))) (uSeq (uSetL 1 (uSm (uCat (uVar 1) (uList (uSm (uCons (uC (.ex 10)) (uCons (uC (.ex 11)) uNil)))))) ([1] ++ ([] ++ ([] ++ [])))) (uSeq (uIfS (uNot (uB (uCall F__law_all_k14 (uCons (uList (uSm (uCons (uC (.ex 12)) uNil))) (uCons (uList (uSm (uCons (uList (uSm (uCons (uC (.int 1)) (uCons (uC (.int 2)) (uCons (uC (.int 3)) (uCons (uC (.int 4)) (uCons (uC (.int 5)) (uCons (uC (.int 6)) uNil)))))))) uNil))) (uCons (uC (.int 1)) uNil)))))) (uRet (uC (.bl false))) uNext) (uSeq (uIfS (uNot (uB (uCall F__law_all_k14 (uCons (uVar 1) (uCons (uList (uCallL F__law_no_steps (uCons (uVar 0) uNil))) (uCons (uC (.int 1)) uNil)))))) (uRet (uC (.bl false))) uNext) (uRet (uC (.bl true))))))))))
@[irreducible] def F__law_steps_right : List D → Option SV := runD c__law_steps_right 0 2
def c__law_places_right : US := (uSeq (uSetL 1 (uSm (uCons (uC (.ex 13)) (uCons (uC (.ex 14)) (uCons (uC (.ex 15)) uNil)))) ([] ++ ([] ++ ([] ++ [])))) (uSeq (uSetL 1 (uSm (uCat (uVar 1) (uList (uSm (uCons (uC (.ex 16)) (uCons (uC (.ex 17)) uNil)))))) ([1] ++ ([] ++ ([] ++ [])))) (uSeq (uSetL 1 (uSm (uCat (uVar 1) (uList (uSm (uCons (uC (.ex 18)) (uCons (uC (.ex 19)) uNil)))))) ([1] ++ ([] ++ ([] ++ [])))) (uSeq (uSetL 1 (uSm (uCat (uVar 1) (uList (uSm (uCons (uC (.ex 20)) (uCons (uC (.ex 21)) uNil)))))) ([1] ++ ([] ++ ([] ++ [])))) (uSeq (uApp 1 (uC (.ex 22)) []) (uSeq (uSetL 1 (uSm (uCat (uVar 1) (uList (uSm (uCons (uC (.ex 23)) (uCons (uC (.ex 24)) uNil)))))) ([1] ++ ([] ++ ([] ++ [])))) (uSeq (uApp 1 (uC (.ex 25)) []) (uSeq (uIfS (uNot (uB (uCall F__law_all_k14 (uCons (uVar 1) (uCons (uList (uSm (uCat (uList (uCallL F__law_strange (uCons (uVar 0) uNil))) (uList (uSm (uCons (uC (.int 5)) (uCons (uOp dAdd (uC (.int 5)) (uVar 0)) uNil))))))) (uCons (uC (.int 2)) uNil)))))) (uRet (uC (.bl false))) uNext) (uRet (uC (.bl true)))))))))))
@[irreducible] def F__law_places_right : List D → Option SV := runD c__law_places_right 0 2
def c_law_k14 : US := (uSeq (uFor (uAs (uList (uSm (uCat (uList (uSm (uCons (uC (.int 0)) uNil))) (uList (uCutF (uVar 0) oNone (oSome (uC (.int 2))))))))) (([] ++ []) ++ [0]) (gVar 1) (uSeq (uSet 2 (uOp dMod (uFn bAbs (uCons (uVar 1) uNil)) (uOp dPow (uC (.int 10)) (uC (.int 20)))) (([1] ++ []) ++ ([] ++ []))) (uSeq (uSetL 3 (uSm (uCons (uC (.ex 26)) (uCons (uC (.ex 27)) (uCons (uC (.ex 28)) uNil)))) ([] ++ ([] ++ ([] ++ [])))) (uSeq (uSetL 3 (uSm (uCat (uVar 3) (uList (uSm (uCons (uC (.ex 29)) (uCons (uC (.ex 30)) uNil)))))) ([3] ++ ([] ++ ([] ++ [])))) (uSeq (uSetL 3 (uSm (uCat (uVar 3) (uList (uSm (uCons (uC (.ex 31)) (uCons (uC (.ex 32)) uNil)))))) ([3] ++ ([] ++ ([] ++ [])))) (uSeq (uSetL 3 (uSm (uCat (uVar 3) (uList (uSm (uCons (uC (.ex 33)) (uCons (uC (.ex 34)) (uCons (uC (.ex 35)) uNil))))))) ([3] ++ ([] ++ ([] ++ ([] ++ []))))) (uSeq (uSetL 3 (uSm (uCat (uVar 3) (uList (uSm (uCons (uC (.ex 36)) (uCons (uC (.ex 37)) uNil)))))) ([3] ++ ([] ++ ([] ++ [])))) (uSeq (uApp 3 (uC (.ex 38)) []) (uSeq (uIfS (uNot (uB (uCall F__law_all_k14 (uCons (uVar 3) (uCons (uList (uSm (uCat (uList (uCallL F__law_strange (uCons (uVar 2) uNil))) (uList (uSm (uCons (uC (.int 0)) (uCons (uC (.int 61)) (uCons (uOp dAdd (uC (.int 61)) (uVar 2)) uNil)))))))) (uCons (uC (.int 0)) uNil)))))) (uRet (uC (.bl false))) uNext) (uSeq (uIfS (uNot (uB (uCall F__law_all_k14 (uCons (uList (uSm (uCons (uC (.ex 39)) uNil))) (uCons (uList (uSm (uCons (uC (.int 9)) (uCons (uC (.int 60)) uNil)))) (uCons (uC (.int 0)) uNil)))))) (uRet (uC (.bl false))) uNext) (uIfS (uOr (uNot (uB (uCall F__law_steps_right (uCons (uVar 2) uNil)))) (uNot (uB (uCall F__law_places_right (uCons (uVar 2) uNil))))) (uRet (uC (.bl false))) uNext))))))))))) (uSeq (uIfS (uB (uOp dNe (uList (uSm (uCons (uCall F_far_k14 (uCons (uC (.int 60)) (uCons (uList (uSm (uCons (uC (.int 60)) uNil))) uNil))) (uCons (uCall F_far_k14 (uCons (uC (.int 1)) (uCons (uList (uSm (uCons (uC (.int 1)) (uCons (uC (.int 2)) (uCons (uC (.int 3)) (uCons (uC (.int 4)) (uCons (uC (.int 5)) (uCons (uC (.int 6)) uNil)))))))) uNil))) (uCons (uOp dIx (uList (uCallL F_nearest_k14 (uCons (uC (.int 60)) (uCons (uList (uSm (uCons (uC (.int 60)) uNil))) (uCons (uC (.int 59)) uNil))))) (uC (.int 59))) uNil))))) (uList (uSm (uCons (uC .non) (uCons (uC (.int 0)) (uCons (uC (.int 0)) uNil))))))) (uRet (uC (.bl false))) uNext) (uRet (uAndV (uOp dEq (uUn (dFld 0 0) (uCall F_told_k14 (uCons (uC (.int 60)) (uCons (uList (uSm (uCons (uC (.int 1)) uNil))) (uCons (uC (.int 59)) (uCons (uC (.int 0)) uNil)))))) (uList (uSm (uCons (uC (.int 0)) uNil)))) (uOp dEq (uMkGo (uNew (wInit F_check_told_k14) (uCons (uC (.int 60)) (uCons (uList (uSm (uCons (uC (.int 60)) uNil))) (uCons (uC (.int 59)) uNil)))) F_Walker_go (uCons (uC (.int 0)) uNil)) (uC (.int 59)))))))
@[irreducible] def F_law_k14 : List D → Option SV := runD c_law_k14 0 4
end U
end
section
set_option Elab.async false
set_option linter.all false
set_option maxRecDepth 100000
set_option maxHeartbeats 40000001
namespace U.K14
open PySem PySem.Spec L2 PyProof.Rows U
def top (i : Nat) : Stmt := PySem.Challenge.pw_roundsteps_k14_refused_rings.main.body.getD i (.Pass ⟨0, 0, 0, 0⟩)
abbrev s_is_number : Stmt := top 17
theorem sc_is_number : FnScope ["value"] ["value"] (defScope s_is_number) := ⟨rfl, rfl, rfl, by decide +kernel, rfl, by decide +kernel, by decide +kernel⟩
abbrev s_is_within : Stmt := top 18
theorem sc_is_within : FnScope ["value", "least", "most"] ["value", "least", "most"] (defScope s_is_within) := ⟨rfl, rfl, rfl, by decide +kernel, rfl, by decide +kernel, by decide +kernel⟩
abbrev s_is_ring : Stmt := top 19
theorem sc_is_ring : FnScope ["value"] ["value"] (defScope s_is_ring) := ⟨rfl, rfl, rfl, by decide +kernel, rfl, by decide +kernel, by decide +kernel⟩
abbrev s_is_rising : Stmt := top 20
theorem sc_is_rising : FnScope ["numbers", "low", "high"] ["numbers"] (defScope s_is_rising) := ⟨rfl, rfl, rfl, by decide +kernel, rfl, by decide +kernel, by decide +kernel⟩
abbrev s_are_steps : Stmt := top 21
theorem sc_are_steps : FnScope ["value", "step"] ["value"] (defScope s_are_steps) := ⟨rfl, rfl, rfl, by decide +kernel, rfl, by decide +kernel, by decide +kernel⟩
abbrev s_is_place : Stmt := top 22
theorem sc_is_place : FnScope ["ring", "value"] ["ring", "value"] (defScope s_is_place) := ⟨rfl, rfl, rfl, by decide +kernel, rfl, by decide +kernel, by decide +kernel⟩
abbrev s_is_count : Stmt := top 23
theorem sc_is_count : FnScope ["steps", "value"] ["steps", "value"] (defScope s_is_count) := ⟨rfl, rfl, rfl, by decide +kernel, rfl, by decide +kernel, by decide +kernel⟩
abbrev s_check_ring : Stmt := top 24
theorem sc_check_ring : FnScope ["ring"] ["ring"] (defScope s_check_ring) := ⟨rfl, rfl, rfl, by decide +kernel, rfl, by decide +kernel, by decide +kernel⟩
abbrev s_check_steps : Stmt := top 25
theorem sc_check_steps : FnScope ["steps"] ["steps"] (defScope s_check_steps) := ⟨rfl, rfl, rfl, by decide +kernel, rfl, by decide +kernel, by decide +kernel⟩
abbrev s_check_place : Stmt := top 26
theorem sc_check_place : FnScope ["ring", "place"] ["ring", "place"] (defScope s_check_place) := ⟨rfl, rfl, rfl, by decide +kernel, rfl, by decide +kernel, by decide +kernel⟩
abbrev s_check_told : Stmt := top 27
theorem sc_check_told : FnScope ["ring", "steps", "places", "place"] ["ring", "steps", "places"] (defScope s_check_told) := ⟨rfl, rfl, rfl, by decide +kernel, rfl, by decide +kernel, by decide +kernel⟩
abbrev s_led_to : Stmt := top 28
theorem sc_led_to : FnScope ["ring", "place", "step"] ["ring", "place", "step"] (defScope s_led_to) := ⟨rfl, rfl, rfl, by decide +kernel, rfl, by decide +kernel, by decide +kernel⟩
abbrev s_common_part : Stmt := top 34
theorem sc_common_part : FnScope ["numbers", "part", "number", "rest"] ["numbers"] (defScope s_common_part) := ⟨rfl, rfl, rfl, by decide +kernel, rfl, by decide +kernel, by decide +kernel⟩
abbrev s_copied : Stmt := top 36
theorem sc_copied : FnScope ["value"] ["value"] (defScope s_copied) := ⟨rfl, rfl, rfl, by decide +kernel, rfl, by decide +kernel, by decide +kernel⟩
abbrev s_Come_init : Stmt := inClass (top 44) 0
theorem sc_Come_init : FnScope ["self", "way", "heights"] ["self", "way", "heights"] (defScope s_Come_init) := ⟨rfl, rfl, rfl, by decide +kernel, rfl, by decide +kernel, by decide +kernel⟩
abbrev s_Never_init : Stmt := inClass (top 45) 0
theorem sc_Never_init : FnScope ["self", "part"] ["self", "part"] (defScope s_Never_init) := ⟨rfl, rfl, rfl, by decide +kernel, rfl, by decide +kernel, by decide +kernel⟩
abbrev s_next_row : Stmt := top 51
theorem sc_next_row : FnScope ["ring", "steps", "near", "row", "fresh", "place", "step", "other"] ["ring", "steps", "near", "row"] (defScope s_next_row) := ⟨rfl, rfl, rfl, by decide +kernel, rfl, by decide +kernel, by decide +kernel⟩
abbrev s_fewest : Stmt := top 52
theorem sc_fewest : FnScope ["ring", "steps", "place", "near", "row"] ["ring", "steps", "place"] (defScope s_fewest) := ⟨rfl, rfl, rfl, by decide +kernel, rfl, by decide +kernel, by decide +kernel⟩
abbrev s_last_count : Stmt := top 53
theorem sc_last_count : FnScope ["ring", "steps", "near", "place", "fewer", "counts", "count", "step"] ["ring", "steps", "near", "place"] (defScope s_last_count) := ⟨rfl, rfl, rfl, by decide +kernel, rfl, by decide +kernel, by decide +kernel⟩
abbrev s_way_to : Stmt := top 54
theorem sc_way_to : FnScope ["ring", "steps", "near", "place", "way", "count"] ["ring", "steps", "near", "place"] (defScope s_way_to) := ⟨rfl, rfl, rfl, by decide +kernel, rfl, by decide +kernel, by decide +kernel⟩
abbrev s_heights_of : Stmt := top 55
theorem sc_heights_of : FnScope ["near", "many"] ["near"] (defScope s_heights_of) := ⟨rfl, rfl, rfl, by decide +kernel, rfl, by decide +kernel, by decide +kernel⟩
abbrev s_told : Stmt := top 56
theorem sc_told : FnScope ["ring", "steps", "one", "other", "near"] ["ring", "steps", "one", "other"] (defScope s_told) := ⟨rfl, rfl, rfl, by decide +kernel, rfl, by decide +kernel, by decide +kernel⟩
abbrev s_nearest : Stmt := top 57
theorem sc_nearest : FnScope ["ring", "steps", "place"] ["ring", "steps", "place"] (defScope s_nearest) := ⟨rfl, rfl, rfl, by decide +kernel, rfl, by decide +kernel, by decide +kernel⟩
abbrev s_far : Stmt := top 58
theorem sc_far : FnScope ["ring", "steps", "near"] ["ring", "steps"] (defScope s_far) := ⟨rfl, rfl, rfl, by decide +kernel, rfl, by decide +kernel, by decide +kernel⟩
abbrev s_after : Stmt := top 61
theorem sc_after : FnScope ["ring", "steps", "place", "many", "beginning", "come", "at"] ["ring", "steps", "place", "many"] (defScope s_after) := ⟨rfl, rfl, rfl, by decide +kernel, rfl, by decide +kernel, by decide +kernel⟩
abbrev s_every : Stmt := top 63
theorem sc_every : FnScope ["ring", "steps", "part"] ["ring", "steps"] (defScope s_every) := ⟨rfl, rfl, rfl, by decide +kernel, rfl, by decide +kernel, by decide +kernel⟩
abbrev s_check_room : Stmt := top 66
theorem sc_check_room : FnScope ["steps"] ["steps"] (defScope s_check_room) := ⟨rfl, rfl, rfl, by decide +kernel, rfl, by decide +kernel, by decide +kernel⟩
abbrev s_check_small_ring : Stmt := top 67
theorem sc_check_small_ring : FnScope ["ring"] ["ring"] (defScope s_check_small_ring) := ⟨rfl, rfl, rfl, by decide +kernel, rfl, by decide +kernel, by decide +kernel⟩
abbrev s_added : Stmt := top 69
theorem sc_added : FnScope ["ring", "steps", "fresh", "step", "fars", "least", "many"] ["ring", "steps"] (defScope s_added) := ⟨rfl, rfl, rfl, by decide +kernel, rfl, by decide +kernel, by decide +kernel⟩
abbrev s_twos : Stmt := top 70
theorem sc_twos : FnScope ["ring", "steps"] ["ring", "steps"] (defScope s_twos) := ⟨rfl, rfl, rfl, by decide +kernel, rfl, by decide +kernel, by decide +kernel⟩
abbrev s_told_back : Stmt := top 72
theorem sc_told_back : FnScope ["ring", "places", "steps"] ["ring", "places"] (defScope s_told_back) := ⟨rfl, rfl, rfl, by decide +kernel, rfl, by decide +kernel, by decide +kernel⟩
abbrev s_how_many : Stmt := top 80
theorem sc_how_many : FnScope ["ring", "steps", "one", "other", "many"] ["ring", "steps", "one", "other", "many"] (defScope s_how_many) := ⟨rfl, rfl, rfl, by decide +kernel, rfl, by decide +kernel, by decide +kernel⟩
abbrev s_way_by : Stmt := top 81
theorem sc_way_by : FnScope ["ring", "steps", "one", "other", "many", "number", "rows", "rest", "way", "row", "ways", "count"] ["ring", "steps", "one", "other", "many", "number"] (defScope s_way_by) := ⟨rfl, rfl, rfl, by decide +kernel, rfl, by decide +kernel, by decide +kernel⟩
abbrev s_number_of : Stmt := top 82
theorem sc_number_of : FnScope ["ring", "steps", "way", "rows", "rest", "number", "count", "row"] ["ring", "steps", "way"] (defScope s_number_of) := ⟨rfl, rfl, rfl, by decide +kernel, rfl, by decide +kernel, by decide +kernel⟩
abbrev s_judged : Stmt := top 88
theorem sc_judged : FnScope ["ring", "steps", "place", "tale", "line"] ["ring", "steps", "place", "tale"] (defScope s_judged) := ⟨rfl, rfl, rfl, by decide +kernel, rfl, by decide +kernel, by decide +kernel⟩
abbrev s_Walker_init : Stmt := inClass (top 90) 0
theorem sc_Walker_init : FnScope ["self", "ring", "steps", "place"] ["self", "ring", "steps", "place"] (defScope s_Walker_init) := ⟨rfl, rfl, rfl, by decide +kernel, rfl, by decide +kernel, by decide +kernel⟩
abbrev s_Walker_move : Stmt := inClass (top 90) 1
theorem sc_Walker_move : FnScope ["self", "step"] ["self", "step"] (defScope s_Walker_move) := ⟨rfl, rfl, rfl, by decide +kernel, rfl, by decide +kernel, by decide +kernel⟩
abbrev s_Walker_go : Stmt := inClass (top 90) 2
theorem sc_Walker_go : FnScope ["self", "step"] ["self", "step"] (defScope s_Walker_go) := ⟨rfl, rfl, rfl, by decide +kernel, rfl, by decide +kernel, by decide +kernel⟩
abbrev s__law_kinds : Stmt := top 93
theorem sc__law_kinds : FnScope ["_law_error", "_law_found"] ["_law_error"] (defScope s__law_kinds) := ⟨rfl, rfl, rfl, by decide +kernel, rfl, by decide +kernel, by decide +kernel⟩
abbrev s__law_steps_right : Stmt := top 98
abbrev s__law_places_right : Stmt := top 99
abbrev s_law : Stmt := top 100
def LLs : List LamI := lamsD "_law_steps_right" s__law_steps_right ++ lamsD "_law_places_right" s__law_places_right ++ lamsD "law" s_law
def LL (n : Nat) : LamI := LLs.getD n ⟨"", ⟨[], [], none, [], [], none, []⟩, .Name "" ⟨0, 0, 0, 0⟩, ⟨.function, [], false, false, []⟩⟩
abbrev s__law_refused : Stmt := top 94
theorem sc__law_refused : FnScope ["_law_ask", "_law_thing", "_law_which", "_law_sorts", "_law_error", "_law_at"] ["_law_ask", "_law_thing", "_law_which"] (defScope s__law_refused) := ⟨rfl, rfl, rfl, by decide +kernel, rfl, by decide +kernel, by decide +kernel⟩
abbrev s__law_all : Stmt := top 95
theorem sc__law_all : FnScope ["_law_asks", "_law_things", "_law_which", "_law_ask", "_law_thing"] ["_law_asks", "_law_things", "_law_which"] (defScope s__law_all) := ⟨rfl, rfl, rfl, by decide +kernel, rfl, by decide +kernel, by decide +kernel⟩
abbrev s__law_strange : Stmt := top 96
theorem sc__law_strange : FnScope ["_law_great"] ["_law_great"] (defScope s__law_strange) := ⟨rfl, rfl, rfl, by decide +kernel, rfl, by decide +kernel, by decide +kernel⟩
abbrev s__law_no_steps : Stmt := top 97
theorem sc__law_no_steps : FnScope ["_law_great", "_law_found", "_law_one", "_law_spot"] ["_law_great"] (defScope s__law_no_steps) := ⟨rfl, rfl, rfl, by decide +kernel, rfl, by decide +kernel, by decide +kernel⟩
theorem sc__law_steps_right : FnScope ["_law_great", "_law_asks"] ["_law_great"] (defScope s__law_steps_right) := ⟨rfl, rfl, rfl, by decide +kernel, rfl, by decide +kernel, by decide +kernel⟩
theorem sc__law_places_right : FnScope ["_law_great", "_law_asks"] ["_law_great"] (defScope s__law_places_right) := ⟨rfl, rfl, rfl, by decide +kernel, rfl, by decide +kernel, by decide +kernel⟩
theorem sc_law : FnScope ["_law_script", "_law_cell", "_law_great", "_law_asks"] ["_law_script"] (defScope s_law) := ⟨rfl, rfl, rfl, by decide +kernel, rfl, by decide +kernel, by decide +kernel⟩
structure TX (G : GG) (base : Heap) (mg : Str → Option Value) : Prop where
  d_is_number : Def1 G.K mg "is_number" s_is_number ["value"]
  d_is_within : Def1 G.K mg "is_within" s_is_within ["value", "least", "most"]
  d_is_ring : Def1 G.K mg "is_ring" s_is_ring ["value"]
  d_is_rising : Def1 G.K mg "is_rising" s_is_rising ["numbers"]
  d_are_steps : Def1 G.K mg "are_steps" s_are_steps ["value"]
  d_is_place : Def1 G.K mg "is_place" s_is_place ["ring", "value"]
  d_is_count : Def1 G.K mg "is_count" s_is_count ["steps", "value"]
  d_check_ring : Def1 G.K mg "check_ring" s_check_ring ["ring"]
  d_check_steps : Def1 G.K mg "check_steps" s_check_steps ["steps"]
  d_check_place : Def1 G.K mg "check_place" s_check_place ["ring", "place"]
  d_check_told : Def1 G.K mg "check_told" s_check_told ["ring", "steps", "places"]
  d_led_to : Def1 G.K mg "led_to" s_led_to ["ring", "place", "step"]
  d_common_part : Def1 G.K mg "common_part" s_common_part ["numbers"]
  d_copied : Def1 G.K mg "copied" s_copied ["value"]
  k_Come : KOk2 G.K mg (G.cls 0) "Come" "Come.__init__" s_Come_init ["self", "way", "heights"] cFl
  f_Come : G.flds 0 = cFl
  k_Never : KOk G.K mg (G.cls 1) "Never" "Never.__init__" s_Never_init ["part"]
  f_Never : G.flds 1 = (["part"] : List Str)
  d_next_row : Def1 G.K mg "next_row" s_next_row ["ring", "steps", "near", "row"]
  d_fewest : Def1 G.K mg "fewest" s_fewest ["ring", "steps", "place"]
  d_last_count : Def1 G.K mg "last_count" s_last_count ["ring", "steps", "near", "place"]
  d_way_to : Def1 G.K mg "way_to" s_way_to ["ring", "steps", "near", "place"]
  d_heights_of : Def1 G.K mg "heights_of" s_heights_of ["near"]
  d_told : Def1 G.K mg "told" s_told ["ring", "steps", "one", "other"]
  d_nearest : Def1 G.K mg "nearest" s_nearest ["ring", "steps", "place"]
  d_far : Def1 G.K mg "far" s_far ["ring", "steps"]
  d_after : Def1 G.K mg "after" s_after ["ring", "steps", "place", "many"]
  d_every : Def1 G.K mg "every" s_every ["ring", "steps"]
  d_check_room : Def1 G.K mg "check_room" s_check_room ["steps"]
  d_check_small_ring : Def1 G.K mg "check_small_ring" s_check_small_ring ["ring"]
  d_added : Def1 G.K mg "added" s_added ["ring", "steps"]
  d_twos : Def1 G.K mg "twos" s_twos ["ring", "steps"]
  d_told_back : Def1 G.K mg "told_back" s_told_back ["ring", "places"]
  d_how_many : Def1 G.K mg "how_many" s_how_many ["ring", "steps", "one", "other", "many"]
  d_way_by : Def1 G.K mg "way_by" s_way_by ["ring", "steps", "one", "other", "many", "number"]
  d_number_of : Def1 G.K mg "number_of" s_number_of ["ring", "steps", "way"]
  d_judged : Def1 G.K mg "judged" s_judged ["ring", "steps", "place", "tale"]
  k_Walker : KOk2 G.K mg (G.cls 2) "Walker" "Walker.__init__" s_Walker_init ["self", "ring", "steps", "place"] wFl
  f_Walker : G.flds 2 = wFl
  d_Walker_move : MOk G.K (G.cls 2) "move" "Walker.move" s_Walker_move ["self", "step"]
  d_Walker_go : MOk G.K (G.cls 2) "go" "Walker.go" s_Walker_go ["self", "step"]
  d__law_kinds : Def1 G.K mg "_law_kinds" s__law_kinds ["_law_error"]
  d__law_refused : Def1 G.K mg "_law_refused" s__law_refused ["_law_ask", "_law_thing", "_law_which"]
  d__law_all : Def1 G.K mg "_law_all" s__law_all ["_law_asks", "_law_things", "_law_which"]
  d__law_strange : Def1 G.K mg "_law_strange" s__law_strange ["_law_great"]
  d__law_no_steps : Def1 G.K mg "_law_no_steps" s__law_no_steps ["_law_great"]
  d__law_steps_right : Def1 G.K mg "_law_steps_right" s__law_steps_right ["_law_great"]
  d__law_places_right : Def1 G.K mg "_law_places_right" s__law_places_right ["_law_great"]
  d_law : Def1 G.K mg "law" s_law ["_law_script"]
  e_BadRing : ExcK G.K mg "BadRing"
  e_BadSteps : ExcK G.K mg "BadSteps"
  e_BadPlace : ExcK G.K mg "BadPlace"
  kx_BadRing : KdX G.K mg "RoundError" "BadRing" [("BadRing", true), ("BadSteps", false), ("BadPlace", false), ("BadCount", false), ("BadNumber", false), ("BadWay", false), ("BadPlaces", false), ("BadStep", false), ("BadTale", false), ("Nothing", false), ("ValueError", true)]
  kx_BadSteps : KdX G.K mg "RoundError" "BadSteps" [("BadRing", false), ("BadSteps", true), ("BadPlace", false), ("BadCount", false), ("BadNumber", false), ("BadWay", false), ("BadPlaces", false), ("BadStep", false), ("BadTale", false), ("Nothing", false), ("ValueError", true)]
  kx_BadPlace : KdX G.K mg "RoundError" "BadPlace" [("BadRing", false), ("BadSteps", false), ("BadPlace", true), ("BadCount", false), ("BadNumber", false), ("BadWay", false), ("BadPlaces", false), ("BadStep", false), ("BadTale", false), ("Nothing", false), ("ValueError", true)]
  c_GREATEST_STEP : IntC mg "GREATEST_STEP" 60
  c_MOST_PLACES : IntC mg "MOST_PLACES" 60
  c_MOST_STEPS : IntC mg "MOST_STEPS" 6
  c_MOST_TOLD_BACK : IntC mg "MOST_TOLD_BACK" 8
  z_ValueError : mg "ValueError" = none
  z_abs : mg "abs" = none
  z_all : mg "all" = none
  z_bool : mg "bool" = none
  z_enumerate : mg "enumerate" = none
  z_int : mg "int" = none
  z_isinstance : mg "isinstance" = none
  z_len : mg "len" = none
  z_list : mg "list" = none
  z_max : mg "max" = none
  z_range : mg "range" = none
  z_zip : mg "zip" = none
  gen : ∀ x ∈ (["is_rising", "are_steps"] : List Str), GenD G base mg x
  lam : ∀ x ∈ (["_law_steps_right", "_law_places_right", "law"] : List Str), LamD G base mg x
  exs : G.exs = lamEx LL
theorem it_ris {G : GG} {X : Cx} {σ : L2.St} {H : Hp} {scope : Scope} {d e : D} {b : Bool} {it jt : V} {S : Addr → Prop} {δ : DS} {p1 p2 pos : Pos} (hq : qRis δ d e = some b) (r1 : Rep G H S it d) (r2 : Rep G H S jt e) (hk : scope.kind = .function := by rfl) (h1 : scope.names.lookup ("low" : Str) = some .local := by rfl) (h2 : scope.names.lookup ("high" : Str) = some .local := by rfl) :
    ItemOk2 X σ H scope "low" "high" (.Compare (.Name "low" p1) [.Lt] [.Name "high" p2] pos) it jt b := by
  intro A' cl C code _ _
  unfold qRis at hq
  split at hq
  · cases hq; cases r1; cases r2
    exact q_lt (q_loc (.inl ⟨rfl, rfl⟩) hk h1) (q_loc (.inr ⟨rfl, rfl⟩) hk h2)
  · cases hq
theorem q_is_number {P : Program} {w : World} {G : GG} {base : Heap} {mg : Str → Option Value} {LS : Addr → List V → Prop} (T : TX G base mg) (i : Int) : ∃ f, mg "is_number" = some (.ref f) ∧ PySem.W.keepIn G.K (.ref f) = true ∧ QFn P w G.K mg LS 1 f [.int i] (.bl true) := by
  obtain ⟨f, fd, FF, hm, hb⟩ := T.d_is_number.ex
  refine ⟨f, hm, FF.kp, qfn_ret (k := 0) (vs := [.int i]) (v := .bl true) FF hb rfl (by decide) (by decide +kernel) rfl (he := ?_)⟩
  intro A L cd hd
  exact q_and (q_isI (T := "int") (bb := true) (i := i) (q_loc List.mem_cons_self) (kit_tab (by decide) (by decide)) T.z_isinstance T.z_int (by decide +kernel)) (q_one (q_not (x := false) (q_isI (T := "bool") (bb := false) (i := i) (q_loc List.mem_cons_self) (kit_tab (by decide) (by decide)) T.z_isinstance T.z_bool (by decide +kernel))))
theorem q_is_within {P : Program} {w : World} {G : GG} {base : Heap} {mg : Str → Option Value} {LS : Addr → List V → Prop} (T : TX G base mg) (i j k : Int) : ∃ f, mg "is_within" = some (.ref f) ∧ PySem.W.keepIn G.K (.ref f) = true ∧ QFn P w G.K mg LS 2 f [.int i, .int j, .int k] (.bl (decide (j ≤ i) && decide (i ≤ k))) := by
  obtain ⟨f, fd, FF, hm, hb⟩ := T.d_is_within.ex
  obtain ⟨f2, hm2, hk2, Q2⟩ := q_is_number (P := P) (w := w) (LS := LS) T i
  refine ⟨f, hm, FF.kp, qfn_ret (k := 1) (vs := [.int i, .int j, .int k]) (v := .bl (decide (j ≤ i) && decide (i ≤ k))) FF hb rfl (by decide) (by decide +kernel) rfl (he := ?_)⟩
  intro A L cd hd
  exact q_and (q_call Q2 (qa_cons (q_loc List.mem_cons_self) qa_nil) hd hm2 hk2) (q_one (q_chain (q_loc (List.mem_cons_of_mem _ List.mem_cons_self)) (q_loc List.mem_cons_self) (q_loc (List.mem_cons_of_mem _ (List.mem_cons_of_mem _ List.mem_cons_self)))))
theorem it_st {G : GG} {X : Cx} {σ : L2.St} {H : Hp} {scope : Scope} {d : D} {b : Bool} {it : V} {S : Addr → Prop} {δ : DS} {k : Nat} {j : Nat} {p1 p2 p3 p4 pos : Pos} {base : Heap} (T : TX G base X.mg) (hr : Room k X.A) (hq : qSt δ d = some b) (r1 : Rep G H S it d) (hK : X.K = G.K := by rfl) (hk : scope.kind = .function := by rfl) (h1 : scope.names.lookup ("step" : Str) = some .local := by rfl)
    (h2 : scope.names.lookup ("is_within" : Str) = some .globalImplicit := by rfl) (h3 : scope.names.lookup ("GREATEST_STEP" : Str) = some .globalImplicit := by rfl) (hgl : X.env.globals = mainGlobals := by rfl) :
    ItemOk X σ H scope "step" (.Call (.Name "is_within" p1) [.Name "step" p2, .Constant (.int 1) j p3, .Name "GREATEST_STEP" p4] [] pos) it b := by
  intro A' cl C code _ hd
  unfold qSt at hq
  split at hq
  · rename_i i
    cases hq; cases r1
    obtain ⟨f, hm, hkp, Q⟩ := q_is_within (P := X.prog) (w := X.w) (LS := fun a xs => H a = some (.lst xs)) T i 1 60
    obtain ⟨t, ht⟩ := T.c_GREATEST_STEP.ex
    have hdp := hr.dp
    rw [hK]
    exact q_call Q (qa_cons (q_loc ⟨rfl, rfl⟩ hk h1) (qa_cons q_int (qa_cons (q_glob ht hk h3 hgl) qa_nil))) (by omega) hm hkp hk h2 hgl
  · cases hq
theorem ok_is_number {P : Program} {w : World} {G : GG} {mg : Str → Option Value} {base : Heap} (T : TX G base mg) : Fn1 P w G.K mg base G "is_number" 1 1 F_is_number := by
  unfold F_is_number
  exact fn1 (k := 0) (fuel := 0) (N := ["value"]) (comb := c_is_number) T.d_is_number sc_is_number rfl fun f cdv A outer s H E hr =>
    (show USs G (cxOf CX0 P w G.K mg base ["value"] "is_number" (defScope s_is_number) f cdv A outer s H E).nox (defBody s_is_number) c_is_number from (us_one (us_ret (u_and (u_isT (u_var (i := 0)) T.z_isinstance T.z_int) (u_one (u_not (u_isT (u_var (i := 0)) T.z_isinstance T.z_bool)))))))
theorem ok_is_within {P : Program} {w : World} {G : GG} {mg : Str → Option Value} {base : Heap} (T : TX G base mg) : Fn1 P w G.K mg base G "is_within" 2 3 F_is_within := by
  unfold F_is_within
  exact fn1 (k := 1) (fuel := 0) (N := ["value", "least", "most"]) (comb := c_is_within) T.d_is_within sc_is_within rfl fun f cdv A outer s H E hr =>
    (show USs G (cxOf CX0 P w G.K mg base ["value", "least", "most"] "is_within" (defScope s_is_within) f cdv A outer s H E).nox (defBody s_is_within) c_is_within from (us_one (us_ret (u_and (u_fc (ok_is_number T) hr (by decide) (ua_cons (u_var (i := 0)) ua_nil) (hl_cons hl_nil)) (u_one (u_chain op_le op_le (u_var (i := 1)) (u_var (i := 0)) (u_var (i := 2))))))))
theorem ok_is_ring {P : Program} {w : World} {G : GG} {mg : Str → Option Value} {base : Heap} (T : TX G base mg) : Fn1 P w G.K mg base G "is_ring" 3 1 F_is_ring := by
  unfold F_is_ring
  exact fn1 (k := 2) (fuel := 0) (N := ["value"]) (comb := c_is_ring) T.d_is_ring sc_is_ring rfl fun f cdv A outer s H E hr =>
    (show USs G (cxOf CX0 P w G.K mg base ["value"] "is_ring" (defScope s_is_ring) f cdv A outer s H E).nox (defBody s_is_ring) c_is_ring from (us_one (us_ret (u_fc (ok_is_within T) hr (by decide) (ua_cons (u_var (i := 0)) (ua_cons u_int (ua_cons (u_gI T.c_MOST_PLACES) ua_nil))) (hl_cons (hl_cons (hl_cons hl_nil)))))))
theorem ok_is_rising {P : Program} {w : World} {G : GG} {mg : Str → Option Value} {base : Heap} (T : TX G base mg) : Fn1 P w G.K mg base G "is_rising" 3 1 F_is_rising := by
  unfold F_is_rising
  exact fn1g (T.gen _ (by decide)) (k := 2) (fuel := 0) (N := ["numbers", "low", "high"]) (comb := c_is_rising) T.d_is_rising sc_is_rising rfl fun f cdv A outer s H E hr hG =>
    (show USs G (cxOf CX0 P w G.K mg base ["numbers", "low", "high"] "is_rising" (defScope s_is_rising) f cdv A outer s H E).nox (defBody s_is_rising) c_is_rising from (us_one (us_ret (u_gen2 hG hr (u_var (i := 0)) (u_l (ul_slice (u_var (i := 0)) (uo_some u_int) uo_none)) T.z_all T.z_zip (q := qRis) (fun _ _ _ _ _ _ _ _ d e b it jt S hq r1 r2 => it_ris hq r1 r2) nf))))
theorem ok_are_steps {P : Program} {w : World} {G : GG} {mg : Str → Option Value} {base : Heap} (T : TX G base mg) : Fn1 P w G.K mg base G "are_steps" 4 1 F_are_steps_k14 := by
  unfold F_are_steps_k14
  exact fn1g (T.gen _ (by decide)) (k := 3) (fuel := 0) (N := ["value", "step"]) (comb := c_are_steps_k14) T.d_are_steps sc_are_steps rfl fun f cdv A outer s H E hr hG =>
    (show USs G (cxOf CX0 P w G.K mg base ["value", "step"] "are_steps" (defScope s_are_steps) f cdv A outer s H E).nox (defBody s_are_steps) c_are_steps_k14 from (us_cons (us_if (ut_w (uw_or (ut_not (ut_val (u_isT (u_var (i := 0)) T.z_isinstance T.z_list))) (uw_or1 (ut_not (ut_chain op_le op_le u_int (u_len (ua_cons (u_var (i := 0)) ua_nil) T.z_len) (u_gI T.c_MOST_STEPS)))))) (us_one (us_ret u_bl)) us_nil) (us_one (us_ret (u_and (u_ga (cont := true) (own := [("step", 1)]) hG hr (ui_list (u_var (i := 0))) (.one 1) (blk_of (by kernel_rfl)) (fun _ _ _ _ _ _ _ => pg_name (i := 1) sc_are_steps.nd rfl (by first | exact Or.inl rfl | exact Or.inr rfl)) (fun _ _ _ _ _ _ _ hr => (u_fc (ok_is_within T) hr (by decide) (ua_cons (u_var (i := 1)) (ua_cons u_int (ua_cons (u_gI T.c_GREATEST_STEP) ua_nil))) (hl_cons (hl_cons (hl_cons hl_nil))))) T.z_all sc_are_steps.nd) (u_one (u_fc (ok_is_rising T) hr (by decide) (ua_cons (u_var (i := 0)) ua_nil) (hl_cons hl_nil))))))))
theorem ok_is_place {P : Program} {w : World} {G : GG} {mg : Str → Option Value} {base : Heap} (T : TX G base mg) : Fn1 P w G.K mg base G "is_place" 3 2 F_is_place := by
  unfold F_is_place
  exact fn1 (k := 2) (fuel := 0) (N := ["ring", "value"]) (comb := c_is_place) T.d_is_place sc_is_place rfl fun f cdv A outer s H E hr =>
    (show USs G (cxOf CX0 P w G.K mg base ["ring", "value"] "is_place" (defScope s_is_place) f cdv A outer s H E).nox (defBody s_is_place) c_is_place from (us_one (us_ret (u_fc (ok_is_within T) hr (by decide) (ua_cons (u_var (i := 1)) (ua_cons u_int (ua_cons (u_sub (u_var (i := 0)) u_int) ua_nil))) (hl_cons (hl_cons (hl_cons hl_nil)))))))
theorem ok_is_count {P : Program} {w : World} {G : GG} {mg : Str → Option Value} {base : Heap} (T : TX G base mg) : Fn1 P w G.K mg base G "is_count" 3 2 F_is_count := by
  unfold F_is_count
  exact fn1 (k := 2) (fuel := 0) (N := ["steps", "value"]) (comb := c_is_count) T.d_is_count sc_is_count rfl fun f cdv A outer s H E hr =>
    (show USs G (cxOf CX0 P w G.K mg base ["steps", "value"] "is_count" (defScope s_is_count) f cdv A outer s H E).nox (defBody s_is_count) c_is_count from (us_one (us_ret (u_fc (ok_is_within T) hr (by decide) (ua_cons (u_var (i := 1)) (ua_cons u_int (ua_cons (u_sub (u_len (ua_cons (u_var (i := 0)) ua_nil) T.z_len) u_int) ua_nil))) (hl_cons (hl_cons (hl_cons hl_nil)))))))
theorem ok_check_ring {P : Program} {w : World} {G : GG} {mg : Str → Option Value} {base : Heap} (T : TX G base mg) : Fn1 P w G.K mg base G "check_ring" 4 1 F_check_ring := by
  unfold F_check_ring
  exact fn1 (k := 3) (fuel := 0) (N := ["ring"]) (comb := c_check_ring) T.d_check_ring sc_check_ring rfl fun f cdv A outer s H E hr =>
    (show USs G (cxOf CX0 P w G.K mg base ["ring"] "check_ring" (defScope s_check_ring) f cdv A outer s H E).nox (defBody s_check_ring) c_check_ring from (us_one (us_if (ut_not (ut_val (u_fc (ok_is_ring T) hr (by decide) (ua_cons (u_var (i := 0)) ua_nil) (hl_cons hl_nil)))) (us_one us_never) us_nil)))
theorem er_check_ring {P : Program} {w : World} {G : GG} {mg : Str → Option Value} {base : Heap} (T : TX G base mg) : FnE P w G.K mg base G "check_ring" 4 1 R_check_ring := fnE (k := 3) (N := ["ring"]) (R' := r_check_ring) T.d_check_ring sc_check_ring rfl (fun f cdv A outer s H E hr =>
    (show URs G (cxOf (CX1 P w) P w G.K mg base ["ring"] "check_ring" (defScope s_check_ring) f cdv A outer s H E) E (defBody s_check_ring) r_check_ring from (ur_here (ur_if (fun _ _ _ _ _ _ _ _ I hx hE => leaf_xe I hx hE) T.e_BadRing (ut_not (ut_val (u_fc (ok_is_ring T) hr (by decide) (ua_cons (u_var (i := 0)) ua_nil) (hl_cons hl_nil)))))))) (fun ds => by unfold R_check_ring; rfl)
theorem ok_check_steps {P : Program} {w : World} {G : GG} {mg : Str → Option Value} {base : Heap} (T : TX G base mg) : Fn1 P w G.K mg base G "check_steps" 5 1 F_check_steps_k14 := by
  unfold F_check_steps_k14
  exact fn1 (k := 4) (fuel := 0) (N := ["steps"]) (comb := c_check_steps_k14) T.d_check_steps sc_check_steps rfl fun f cdv A outer s H E hr =>
    (show USs G (cxOf CX0 P w G.K mg base ["steps"] "check_steps" (defScope s_check_steps) f cdv A outer s H E).nox (defBody s_check_steps) c_check_steps_k14 from (us_one (us_if (ut_not (ut_val (u_fc (ok_are_steps T) hr (by decide) (ua_cons (u_var (i := 0)) ua_nil) (hl_cons hl_nil)))) (us_one us_never) us_nil)))
theorem er_check_steps {P : Program} {w : World} {G : GG} {mg : Str → Option Value} {base : Heap} (T : TX G base mg) : FnE P w G.K mg base G "check_steps" 5 1 R_check_steps := fnE (k := 4) (N := ["steps"]) (R' := r_check_steps) T.d_check_steps sc_check_steps rfl (fun f cdv A outer s H E hr =>
    (show URs G (cxOf (CX1 P w) P w G.K mg base ["steps"] "check_steps" (defScope s_check_steps) f cdv A outer s H E) E (defBody s_check_steps) r_check_steps from (ur_here (ur_if (fun _ _ _ _ _ _ _ _ I hx hE => leaf_xe I hx hE) T.e_BadSteps (ut_not (ut_val (u_fc (ok_are_steps T) hr (by decide) (ua_cons (u_var (i := 0)) ua_nil) (hl_cons hl_nil)))))))) (fun ds => by unfold R_check_steps; rfl)
theorem ok_check_place {P : Program} {w : World} {G : GG} {mg : Str → Option Value} {base : Heap} (T : TX G base mg) : Fn1 P w G.K mg base G "check_place" 4 2 F_check_place := by
  unfold F_check_place
  exact fn1 (k := 3) (fuel := 0) (N := ["ring", "place"]) (comb := c_check_place) T.d_check_place sc_check_place rfl fun f cdv A outer s H E hr =>
    (show USs G (cxOf CX0 P w G.K mg base ["ring", "place"] "check_place" (defScope s_check_place) f cdv A outer s H E).nox (defBody s_check_place) c_check_place from (us_one (us_if (ut_not (ut_val (u_fc (ok_is_place T) hr (by decide) (ua_cons (u_var (i := 0)) (ua_cons (u_var (i := 1)) ua_nil)) (hl_cons (hl_cons hl_nil))))) (us_one us_never) us_nil)))
theorem er_check_place {P : Program} {w : World} {G : GG} {mg : Str → Option Value} {base : Heap} (T : TX G base mg) : FnE P w G.K mg base G "check_place" 4 2 R_check_place := fnE (k := 3) (N := ["ring", "place"]) (R' := r_check_place) T.d_check_place sc_check_place rfl (fun f cdv A outer s H E hr =>
    (show URs G (cxOf (CX1 P w) P w G.K mg base ["ring", "place"] "check_place" (defScope s_check_place) f cdv A outer s H E) E (defBody s_check_place) r_check_place from (ur_here (ur_if (fun _ _ _ _ _ _ _ _ I hx hE => leaf_xe I hx hE) T.e_BadPlace (ut_not (ut_val (u_fc (ok_is_place T) hr (by decide) (ua_cons (u_var (i := 0)) (ua_cons (u_var (i := 1)) ua_nil)) (hl_cons (hl_cons hl_nil))))))))) (fun ds => by unfold R_check_place; rfl)
theorem ok_check_told {P : Program} {w : World} {G : GG} {mg : Str → Option Value} {base : Heap} (T : TX G base mg) : Fn1 P w G.K mg base G "check_told" 6 3 F_check_told_k14 := by
  unfold F_check_told_k14
  exact fn1 (k := 5) (fuel := 0) (N := ["ring", "steps", "places", "place"]) (comb := c_check_told_k14) T.d_check_told sc_check_told rfl fun f cdv A outer s H E hr =>
    (show USs G (cxOf CX0 P w G.K mg base ["ring", "steps", "places", "place"] "check_told" (defScope s_check_told) f cdv A outer s H E).nox (defBody s_check_told) c_check_told_k14 from (us_cons (us_expr (u_fc (ok_check_ring T) hr (by decide) (ua_cons (u_var (i := 0)) ua_nil) (hl_cons hl_nil))) (us_cons (us_expr (u_fc (ok_check_steps T) hr (by decide) (ua_cons (u_var (i := 1)) ua_nil) (hl_cons hl_nil))) (us_one (us_for (ui_list (u_var (i := 2))) (ug_name (i := 3) sc_check_told.nd) (us_one (us_expr (u_fc (ok_check_place T) hr (by decide) (ua_cons (u_var (i := 0)) (ua_cons (u_var (i := 3)) ua_nil)) (hl_cons (hl_cons hl_nil))))))))))
theorem er_check_told {P : Program} {w : World} {G : GG} {mg : Str → Option Value} {base : Heap} (T : TX G base mg) : FnE P w G.K mg base G "check_told" 6 3 R_check_told := fnE (k := 5) (N := ["ring", "steps", "places", "place"]) (R' := r_check_told) T.d_check_told sc_check_told rfl (fun f cdv A outer s H E hr =>
    (show URs G (cxOf (CX1 P w) P w G.K mg base ["ring", "steps", "places", "place"] "check_told" (defScope s_check_told) f cdv A outer s H E) E (defBody s_check_told) r_check_told from (urs_alt (ur_here (ur_call pass1 (er_check_ring T) hr (by decide) (ua_cons (u_var (i := 0)) ua_nil) (hl_cons hl_nil))) (ur_next (fuel := 0) (us_expr (u_fc (ok_check_ring T) hr (by decide) (ua_cons (u_var (i := 0)) ua_nil) (hl_cons hl_nil))) (urs_alt (ur_here (ur_call pass1 (er_check_steps T) hr (by decide) (ua_cons (u_var (i := 1)) ua_nil) (hl_cons hl_nil))) (ur_next (fuel := 0) (us_expr (u_fc (ok_check_steps T) hr (by decide) (ua_cons (u_var (i := 1)) ua_nil) (hl_cons hl_nil))) (ur_here (ur_for (ui_list (u_var (i := 2))) (ug_name (i := 3) sc_check_told.nd) (us_one (us_expr (u_fc (ok_check_place T) hr (by decide) (ua_cons (u_var (i := 0)) (ua_cons (u_var (i := 3)) ua_nil)) (hl_cons (hl_cons hl_nil))))) (ur_here (ur_call pass1 (er_check_place T) hr (by decide) (ua_cons (u_var (i := 0)) (ua_cons (u_var (i := 3)) ua_nil)) (hl_cons (hl_cons hl_nil)))))))))))) (fun ds => by unfold R_check_told; rfl)
theorem ok_led_to {P : Program} {w : World} {G : GG} {mg : Str → Option Value} {base : Heap} (T : TX G base mg) : Fn1 P w G.K mg base G "led_to" 1 3 F_led_to := by
  unfold F_led_to
  exact fn1 (k := 0) (fuel := 0) (N := ["ring", "place", "step"]) (comb := c_led_to) T.d_led_to sc_led_to rfl fun f cdv A outer s H E hr =>
    (show USs G (cxOf CX0 P w G.K mg base ["ring", "place", "step"] "led_to" (defScope s_led_to) f cdv A outer s H E).nox (defBody s_led_to) c_led_to from (us_one (us_ret (u_mod (u_add (u_var (i := 1)) (u_var (i := 2))) (u_var (i := 0))))))
theorem ok_common_part {P : Program} {w : World} {G : GG} {mg : Str → Option Value} {base : Heap} (T : TX G base mg) : Fn1 P w G.K mg base G "common_part" 1 1 F_common_part := by
  unfold F_common_part
  exact fn1 (k := 0) (fuel := 1000) (N := ["numbers", "part", "number", "rest"]) (comb := c_common_part) T.d_common_part sc_common_part rfl fun f cdv A outer s H E hr =>
    (show USs G (cxOf CX0 P w G.K mg base ["numbers", "part", "number", "rest"] "common_part" (defScope s_common_part) f cdv A outer s H E).nox (defBody s_common_part) c_common_part from (us_cons (us_set (i := 1) u_int sc_common_part.nd) (us_cons (us_for (ui_list (u_var (i := 0))) (ug_name (i := 2) sc_common_part.nd) (us_cons (us_set (i := 3) (u_var (i := 2)) sc_common_part.nd) (us_one (us_while (ut_ne hr (u_var (i := 3)) u_int) (us_one (us_par2 (i := 1) (j := 3) (UXe.e (u_var (i := 3))) (UXe.e (u_mod (u_var (i := 1)) (u_var (i := 3)))) sc_common_part.nd)))))) (us_one (us_retV (i := 1))))))
theorem ok_copied {P : Program} {w : World} {G : GG} {mg : Str → Option Value} {base : Heap} (T : TX G base mg) : Fn1 P w G.K mg base G "copied" 1 1 F_copied := by
  unfold F_copied
  exact fn1 (k := 0) (fuel := 0) (N := ["value"]) (comb := c_copied) T.d_copied sc_copied rfl fun f cdv A outer s H E hr =>
    (show USs G (cxOf CX0 P w G.K mg base ["value"] "copied" (defScope s_copied) f cdv A outer s H E).nox (defBody s_copied) c_copied from (us_one (us_retS (ut_val (u_isT (u_var (i := 0)) T.z_isinstance T.z_list)) (ul_list (ua_cons (u_var (i := 0)) ua_nil) T.z_list) (u_var (i := 0)))))
theorem mk_Come {P : Program} {w : World} {G : GG} {mg : Str → Option Value} {base : Heap} (T : TX G base mg) : MkN P w G.K mg base G "Come" 0 2 2 (cInit F_copied) := mk_come (k := 1) T.k_Come T.f_Come sc_Come_init fun f cdv A outer s H E hr => pss_cons (ps_fld (pv 0) (ul_fc (ok_copied T) hr (by decide) (ua_cons (u_var (i := 1)) ua_nil) (hl_cons hl_nil)).pe rfl) (pss_one (ps_fld (pv 0) (ul_fc (ok_copied T) hr (by decide) (ua_cons (u_var (i := 2)) ua_nil) (hl_cons hl_nil)).pe rfl))
theorem fd_Come_way {G : GG} {mg : Str → Option Value} {base : Heap} (T : TX G base mg) : Fd1 G.K G 0 0 "way" := fd2 T.k_Come T.f_Come (by decide) (fun vs hl => match vs, hl with | [_, _], _ => rfl) (fun vs y hl => match vs, hl with | [_, _], _ => rfl)
theorem fd_Come_heights {G : GG} {mg : Str → Option Value} {base : Heap} (T : TX G base mg) : Fd1 G.K G 0 1 "heights" := fd2 T.k_Come T.f_Come (by decide) (fun vs hl => match vs, hl with | [_, _], _ => rfl) (fun vs y hl => match vs, hl with | [_, _], _ => rfl)
theorem mk_Never {P : Program} {w : World} {G : GG} {mg : Str → Option Value} {base : Heap} (T : TX G base mg) : Mk1 P w G.K mg base "Never" (G.cls 1) ["part"] := mk_i1 T.k_Never sc_Never_init fun f cdv A outer s H E => pss_one (ps_fld (pv 0) (pv 1) rfl)
theorem fd_Never_part {G : GG} {mg : Str → Option Value} {base : Heap} (T : TX G base mg) : Fd1 G.K G 1 0 "part" := fd1 T.k_Never T.f_Never (by decide) (fun vs hl => match vs, hl with | [_], _ => rfl) (fun vs y hl => match vs, hl with | [_], _ => rfl)
theorem ok_next_row {P : Program} {w : World} {G : GG} {mg : Str → Option Value} {base : Heap} (T : TX G base mg) : FnW P w G.K mg base G "next_row" 2 4 2 F_next_row := fnW (k := 1) (fuel := 0) (N := ["ring", "steps", "near", "row", "fresh", "place", "step", "other"]) (j := 2) (i := 4) (u1 := (uSetL 4 (uSm uNil) [])) (u2 := (uFor (uAs (uVar 3)) [3] (gVar 5) (uFor (uAs (uVar 1)) [1] (gVar 6) (uSeq (uSet 7 (uCall F_led_to (uCons (uVar 0) (uCons (uVar 5) (uCons (uVar 6) uNil)))) ([0] ++ ([5] ++ ([6] ++ [])))) (uIfS (uB (uUn (fun x => some (.bl (dIsN x))) (uOp dIx (uVar 2) (uVar 7)))) (uSeq (uPutIx 2 (uVar 7) (uOp dAdd (uOp dIx (uVar 2) (uVar 5)) (uC (.int 1))) (([2] ++ [5]) ++ [])) (uApp 4 (uVar 7) [7])) uNext))))) T.d_next_row sc_next_row rfl rfl (fun f cdv A outer s H E hr => (uf_setL (i := 4) (ul_lst ua_nil) sc_next_row.nd))
  (fun f cdv A outer s H E hr => (uf_for (l := 5) (ui_list (u_var (i := 3))) (uf_one (uf_for (l := 6) (ui_list (u_var (i := 1))) (uf_cons (uf_set (i := 7) (u_fc (ok_led_to T) hr (by decide) (ua_cons (u_var (i := 0)) (ua_cons (u_var (i := 5)) (ua_cons (u_var (i := 6)) ua_nil))) (hl_cons (hl_cons (hl_cons hl_nil)))) sc_next_row.nd) (uf_one (uf_if (ut_isN (u_ix (u_var (i := 2)) (u_var (i := 7)))) (uf_cons (uf_putIx (i := 2) (u_add (u_ix (u_var (i := 2)) (u_var (i := 5))) u_int) (u_var (i := 7)) flat_add) (uf_one (uf_app (i := 4) (u_var (i := 7))))) uf_nil))) sc_next_row.nd)) sc_next_row.nd)) rfl (by decide) (by decide)
theorem ok_fewest {P : Program} {w : World} {G : GG} {mg : Str → Option Value} {base : Heap} (T : TX G base mg) : Fn1 P w G.K mg base G "fewest" 3 3 F_fewest := by
  unfold F_fewest
  exact fn1 (k := 2) (fuel := 1000) (N := ["ring", "steps", "place", "near", "row"]) (comb := c_fewest) T.d_fewest sc_fewest rfl fun f cdv A outer s H E hr =>
    (show USs G (cxOf CX0 P w G.K mg base ["ring", "steps", "place", "near", "row"] "fewest" (defScope s_fewest) f cdv A outer s H E).nox (defBody s_fewest) c_fewest from (us_cons (us_setL (i := 3) (ul_rep (u_l (ul_lst (ua_cons u_non ua_nil))) (u_var (i := 0))) sc_fewest.nd) (us_cons (us_putIx (i := 3) u_int (u_var (i := 2))) (us_cons (us_setL (i := 4) (ul_lst (ua_cons (u_var (i := 2)) ua_nil)) sc_fewest.nd) (us_cons (us_while (ut_lst (u_var (i := 4))) (us_one (us_callW (i0 := 0) (i1 := 1) (i2 := 3) (i3 := 4) (it := 4) (ok_next_row T) hr (by decide) sc_fewest.nd))) (us_one (us_retV (i := 3))))))))
theorem ok_last_count {P : Program} {w : World} {G : GG} {mg : Str → Option Value} {base : Heap} (T : TX G base mg) : Fn1 P w G.K mg base G "last_count" 2 4 F_last_count := by
  unfold F_last_count
  exact fn1 (k := 1) (fuel := 0) (N := ["ring", "steps", "near", "place", "fewer", "counts", "count", "step"]) (comb := c_last_count) T.d_last_count sc_last_count rfl fun f cdv A outer s H E hr =>
    (show USs G (cxOf CX0 P w G.K mg base ["ring", "steps", "near", "place", "fewer", "counts", "count", "step"] "last_count" (defScope s_last_count) f cdv A outer s H E).nox (defBody s_last_count) c_last_count from (us_cons (us_set (i := 4) (u_sub (u_ix (u_var (i := 2)) (u_var (i := 3))) u_int) sc_last_count.nd) (us_cons (us_setLc (i := 5) (own := [("count", 6), ("step", 7)]) (ui_enum (ua_cons (u_var (i := 1)) ua_nil) T.z_enumerate) (.two 6 7) (blk_of (by kernel_rfl)) (fun _ _ _ _ _ => pg_tup rfl (pgs_cons (pg_name (i := 6) sc_last_count.nd rfl (by first | exact Or.inl rfl | exact Or.inr rfl)) (pgs_cons (pg_name (i := 7) sc_last_count.nd rfl (by first | exact Or.inl rfl | exact Or.inr rfl)) pgs_nil))) (fun _ _ _ _ _ => (uts_one (ut_eq hr (u_ix (u_var (i := 2)) (u_fc (ok_led_to T) hr (by decide) (ua_cons (u_var (i := 0)) (ua_cons (u_var (i := 3)) (ua_cons (u_neg (u_var (i := 7))) ua_nil))) (hl_cons (hl_cons (hl_cons hl_nil))))) (u_var (i := 4))))) (fun _ _ _ _ _ => (u_var (i := 6))) sc_last_count.nd) (us_one (us_ret (u_ix (u_var (i := 5)) u_int))))))
theorem ok_way_to {P : Program} {w : World} {G : GG} {mg : Str → Option Value} {base : Heap} (T : TX G base mg) : Fn1 P w G.K mg base G "way_to" 3 4 F_way_to := by
  unfold F_way_to
  exact fn1 (k := 2) (fuel := 1000) (N := ["ring", "steps", "near", "place", "way", "count"]) (comb := c_way_to) T.d_way_to sc_way_to rfl fun f cdv A outer s H E hr =>
    (show USs G (cxOf CX0 P w G.K mg base ["ring", "steps", "near", "place", "way", "count"] "way_to" (defScope s_way_to) f cdv A outer s H E).nox (defBody s_way_to) c_way_to from (us_cons (us_setL (i := 4) (ul_lst ua_nil) sc_way_to.nd) (us_cons (us_while (ut_gt (u_ix (u_var (i := 2)) (u_var (i := 3))) u_int) (us_cons (us_set (i := 5) (u_fc (ok_last_count T) hr (by decide) (ua_cons (u_var (i := 0)) (ua_cons (u_var (i := 1)) (ua_cons (u_var (i := 2)) (ua_cons (u_var (i := 3)) ua_nil)))) (hl_cons (hl_cons (hl_cons (hl_cons hl_nil))))) sc_way_to.nd) (us_cons (us_app (i := 4) (u_var (i := 5))) (us_one (us_set (i := 3) (u_fc (ok_led_to T) hr (by decide) (ua_cons (u_var (i := 0)) (ua_cons (u_var (i := 3)) (ua_cons (u_neg (u_ix (u_var (i := 1)) (u_var (i := 5)))) ua_nil))) (hl_cons (hl_cons (hl_cons hl_nil)))) sc_way_to.nd))))) (us_one (us_retL (ul_rev (u_var (i := 4))))))))
theorem ok_heights_of {P : Program} {w : World} {G : GG} {mg : Str → Option Value} {base : Heap} (T : TX G base mg) : Fn1 P w G.K mg base G "heights_of" 1 1 F_heights_of := by
  unfold F_heights_of
  exact fn1 (k := 0) (fuel := 0) (N := ["near", "many"]) (comb := c_heights_of) T.d_heights_of sc_heights_of rfl fun f cdv A outer s H E hr =>
    (show USs G (cxOf CX0 P w G.K mg base ["near", "many"] "heights_of" (defScope s_heights_of) f cdv A outer s H E).nox (defBody s_heights_of) c_heights_of from (us_one (us_retL (ul_lc (own := [("many", 1)]) (ui_list (u_var (i := 0))) (.one 1) (blk_of (by kernel_rfl)) (fun _ _ _ _ _ => pg_name (i := 1) sc_heights_of.nd rfl (by first | exact Or.inl rfl | exact Or.inr rfl)) (fun _ _ _ _ _ => uts_nil) (fun _ _ _ _ _ => (u_if (ut_isN (u_var (i := 1))) u_int (u_var (i := 1)))) sc_heights_of.nd))))
theorem ok_told {P : Program} {w : World} {G : GG} {mg : Str → Option Value} {base : Heap} (T : TX G base mg) : Fn1 P w G.K mg base G "told" 7 4 F_told_k14 := by
  unfold F_told_k14
  exact fn1 (k := 6) (fuel := 0) (N := ["ring", "steps", "one", "other", "near"]) (comb := c_told_k14) T.d_told sc_told rfl fun f cdv A outer s H E hr =>
    (show USs G (cxOf CX0 P w G.K mg base ["ring", "steps", "one", "other", "near"] "told" (defScope s_told) f cdv A outer s H E).nox (defBody s_told) c_told_k14 from (us_cons (us_expr (u_fc (ok_check_told T) hr (by decide) (ua_cons (u_var (i := 0)) (ua_cons (u_var (i := 1)) (ua_cons (u_l (ul_lst (ua_cons (u_var (i := 2)) (ua_cons (u_var (i := 3)) ua_nil)))) ua_nil))) (hl_cons (hl_cons (hl_cons hl_nil))))) (us_cons (us_setL (i := 4) (ul_fc (ok_fewest T) hr (by decide) (ua_cons (u_var (i := 0)) (ua_cons (u_var (i := 1)) (ua_cons (u_var (i := 2)) ua_nil))) (hl_cons (hl_cons (hl_cons hl_nil)))) sc_told.nd) (us_cons (us_if (ut_isN (u_ix (u_var (i := 4)) (u_var (i := 3)))) (us_one (us_ret (u_make (mk_Never T) T.f_Never hr (by decide) (ua_cons (u_fc (ok_common_part T) hr (by decide) (ua_cons (u_l (ul_lst (ua_cons (u_var (i := 0)) (ua_star (u_var (i := 1)) ua_nil)))) ua_nil) (hl_cons hl_nil)) ua_nil) rfl))) us_nil) (us_one (us_retO (un_make (mk_Come T) hr (by decide) (ua_cons (u_l (ul_fc (ok_way_to T) hr (by decide) (ua_cons (u_var (i := 0)) (ua_cons (u_var (i := 1)) (ua_cons (u_var (i := 4)) (ua_cons (u_var (i := 3)) ua_nil)))) (hl_cons (hl_cons (hl_cons (hl_cons hl_nil)))))) (ua_cons (u_l (ul_fc (ok_heights_of T) hr (by decide) (ua_cons (u_var (i := 4)) ua_nil) (hl_cons hl_nil))) ua_nil)) (hl_cons (hl_cons hl_nil)))))))))
theorem er_told {P : Program} {w : World} {G : GG} {mg : Str → Option Value} {base : Heap} (T : TX G base mg) : FnE P w G.K mg base G "told" 7 4 R_told := fnE (k := 6) (N := ["ring", "steps", "one", "other", "near"]) (R' := r_told) T.d_told sc_told rfl (fun f cdv A outer s H E hr =>
    (show URs G (cxOf (CX1 P w) P w G.K mg base ["ring", "steps", "one", "other", "near"] "told" (defScope s_told) f cdv A outer s H E) E (defBody s_told) r_told from (ur_here (ur_call pass1 (er_check_told T) hr (by decide) (ua_cons (u_var (i := 0)) (ua_cons (u_var (i := 1)) (ua_cons (u_l (ul_lst (ua_cons (u_var (i := 2)) (ua_cons (u_var (i := 3)) ua_nil)))) ua_nil))) (hl_cons (hl_cons (hl_cons hl_nil))))))) (fun ds => by unfold R_told; rfl)
theorem ok_nearest {P : Program} {w : World} {G : GG} {mg : Str → Option Value} {base : Heap} (T : TX G base mg) : Fn1 P w G.K mg base G "nearest" 7 3 F_nearest_k14 := by
  unfold F_nearest_k14
  exact fn1 (k := 6) (fuel := 0) (N := ["ring", "steps", "place"]) (comb := c_nearest_k14) T.d_nearest sc_nearest rfl fun f cdv A outer s H E hr =>
    (show USs G (cxOf CX0 P w G.K mg base ["ring", "steps", "place"] "nearest" (defScope s_nearest) f cdv A outer s H E).nox (defBody s_nearest) c_nearest_k14 from (us_cons (us_expr (u_fc (ok_check_told T) hr (by decide) (ua_cons (u_var (i := 0)) (ua_cons (u_var (i := 1)) (ua_cons (u_l (ul_lst (ua_cons (u_var (i := 2)) ua_nil))) ua_nil))) (hl_cons (hl_cons (hl_cons hl_nil))))) (us_one (us_retL (ul_fc (ok_fewest T) hr (by decide) (ua_cons (u_var (i := 0)) (ua_cons (u_var (i := 1)) (ua_cons (u_var (i := 2)) ua_nil))) (hl_cons (hl_cons (hl_cons hl_nil))))))))
theorem er_nearest {P : Program} {w : World} {G : GG} {mg : Str → Option Value} {base : Heap} (T : TX G base mg) : FnE P w G.K mg base G "nearest" 7 3 R_nearest := fnE (k := 6) (N := ["ring", "steps", "place"]) (R' := r_nearest) T.d_nearest sc_nearest rfl (fun f cdv A outer s H E hr =>
    (show URs G (cxOf (CX1 P w) P w G.K mg base ["ring", "steps", "place"] "nearest" (defScope s_nearest) f cdv A outer s H E) E (defBody s_nearest) r_nearest from (ur_here (ur_call pass1 (er_check_told T) hr (by decide) (ua_cons (u_var (i := 0)) (ua_cons (u_var (i := 1)) (ua_cons (u_l (ul_lst (ua_cons (u_var (i := 2)) ua_nil))) ua_nil))) (hl_cons (hl_cons (hl_cons hl_nil))))))) (fun ds => by unfold R_nearest; rfl)
theorem ok_far {P : Program} {w : World} {G : GG} {mg : Str → Option Value} {base : Heap} (T : TX G base mg) : Fn1 P w G.K mg base G "far" 6 2 F_far_k14 := by
  unfold F_far_k14
  exact fn1 (k := 5) (fuel := 0) (N := ["ring", "steps", "near"]) (comb := c_far_k14) T.d_far sc_far rfl fun f cdv A outer s H E hr =>
    (show USs G (cxOf CX0 P w G.K mg base ["ring", "steps", "near"] "far" (defScope s_far) f cdv A outer s H E).nox (defBody s_far) c_far_k14 from (us_cons (us_expr (u_fc (ok_check_ring T) hr (by decide) (ua_cons (u_var (i := 0)) ua_nil) (hl_cons hl_nil))) (us_cons (us_expr (u_fc (ok_check_steps T) hr (by decide) (ua_cons (u_var (i := 1)) ua_nil) (hl_cons hl_nil))) (us_cons (us_setL (i := 2) (ul_fc (ok_fewest T) hr (by decide) (ua_cons (u_var (i := 0)) (ua_cons (u_var (i := 1)) (ua_cons u_int ua_nil))) (hl_cons (hl_cons (hl_cons hl_nil)))) sc_far.nd) (us_one (us_ret (u_if (ut_in u_non (u_var (i := 2))) u_non (u_max (ua_cons (u_var (i := 2)) ua_nil) T.z_max))))))))
theorem er_far {P : Program} {w : World} {G : GG} {mg : Str → Option Value} {base : Heap} (T : TX G base mg) : FnE P w G.K mg base G "far" 6 2 R_far := fnE (k := 5) (N := ["ring", "steps", "near"]) (R' := r_far) T.d_far sc_far rfl (fun f cdv A outer s H E hr =>
    (show URs G (cxOf (CX1 P w) P w G.K mg base ["ring", "steps", "near"] "far" (defScope s_far) f cdv A outer s H E) E (defBody s_far) r_far from (urs_alt (ur_here (ur_call pass1 (er_check_ring T) hr (by decide) (ua_cons (u_var (i := 0)) ua_nil) (hl_cons hl_nil))) (ur_next (fuel := 0) (us_expr (u_fc (ok_check_ring T) hr (by decide) (ua_cons (u_var (i := 0)) ua_nil) (hl_cons hl_nil))) (ur_here (ur_call pass1 (er_check_steps T) hr (by decide) (ua_cons (u_var (i := 1)) ua_nil) (hl_cons hl_nil))))))) (fun ds => by unfold R_far; rfl)
theorem er_after {P : Program} {w : World} {G : GG} {mg : Str → Option Value} {base : Heap} (T : TX G base mg) : FnE P w G.K mg base G "after" 7 4 R_after := fnE (k := 6) (N := ["ring", "steps", "place", "many", "beginning", "come", "at"]) (R' := r_after) T.d_after sc_after rfl (fun f cdv A outer s H E hr =>
    (show URs G (cxOf (CX1 P w) P w G.K mg base ["ring", "steps", "place", "many", "beginning", "come", "at"] "after" (defScope s_after) f cdv A outer s H E) E (defBody s_after) r_after from (ur_here (ur_call pass1 (er_check_told T) hr (by decide) (ua_cons (u_var (i := 0)) (ua_cons (u_var (i := 1)) (ua_cons (u_l (ul_lst (ua_cons (u_var (i := 2)) ua_nil))) ua_nil))) (hl_cons (hl_cons (hl_cons hl_nil))))))) (fun ds => by unfold R_after; rfl)
theorem er_every {P : Program} {w : World} {G : GG} {mg : Str → Option Value} {base : Heap} (T : TX G base mg) : FnE P w G.K mg base G "every" 6 2 R_every := fnE (k := 5) (N := ["ring", "steps", "part"]) (R' := r_every) T.d_every sc_every rfl (fun f cdv A outer s H E hr =>
    (show URs G (cxOf (CX1 P w) P w G.K mg base ["ring", "steps", "part"] "every" (defScope s_every) f cdv A outer s H E) E (defBody s_every) r_every from (urs_alt (ur_here (ur_call pass1 (er_check_ring T) hr (by decide) (ua_cons (u_var (i := 0)) ua_nil) (hl_cons hl_nil))) (ur_next (fuel := 0) (us_expr (u_fc (ok_check_ring T) hr (by decide) (ua_cons (u_var (i := 0)) ua_nil) (hl_cons hl_nil))) (ur_here (ur_call pass1 (er_check_steps T) hr (by decide) (ua_cons (u_var (i := 1)) ua_nil) (hl_cons hl_nil))))))) (fun ds => by unfold R_every; rfl)
theorem er_check_room {P : Program} {w : World} {G : GG} {mg : Str → Option Value} {base : Heap} (T : TX G base mg) : FnE P w G.K mg base G "check_room" 1 1 R_check_room := fnE (k := 0) (N := ["steps"]) (R' := r_check_room) T.d_check_room sc_check_room rfl (fun f cdv A outer s H E hr =>
    (show URs G (cxOf (CX1 P w) P w G.K mg base ["steps"] "check_room" (defScope s_check_room) f cdv A outer s H E) E (defBody s_check_room) r_check_room from (ur_here (ur_if (fun _ _ _ _ _ _ _ _ I hx hE => leaf_xe I hx hE) T.e_BadSteps (ut_ge (u_len (ua_cons (u_var (i := 0)) ua_nil) T.z_len) (u_gI T.c_MOST_STEPS)))))) (fun ds => by unfold R_check_room; rfl)
theorem er_check_small_ring {P : Program} {w : World} {G : GG} {mg : Str → Option Value} {base : Heap} (T : TX G base mg) : FnE P w G.K mg base G "check_small_ring" 3 1 R_check_small_ring := fnE (k := 2) (N := ["ring"]) (R' := r_check_small_ring) T.d_check_small_ring sc_check_small_ring rfl (fun f cdv A outer s H E hr =>
    (show URs G (cxOf (CX1 P w) P w G.K mg base ["ring"] "check_small_ring" (defScope s_check_small_ring) f cdv A outer s H E) E (defBody s_check_small_ring) r_check_small_ring from (ur_here (ur_if (fun _ _ _ _ _ _ _ _ I hx hE => leaf_xe I hx hE) T.e_BadRing (ut_not (ut_val (u_fc (ok_is_within T) hr (by decide) (ua_cons (u_var (i := 0)) (ua_cons u_int (ua_cons (u_gI T.c_MOST_TOLD_BACK) ua_nil))) (hl_cons (hl_cons (hl_cons hl_nil)))))))))) (fun ds => by unfold R_check_small_ring; rfl)
theorem er_added {P : Program} {w : World} {G : GG} {mg : Str → Option Value} {base : Heap} (T : TX G base mg) : FnE P w G.K mg base G "added" 6 2 R_added := fnE (k := 5) (N := ["ring", "steps", "fresh", "step", "fars", "least", "many"]) (R' := r_added) T.d_added sc_added rfl (fun f cdv A outer s H E hr =>
    (show URs G (cxOf (CX1 P w) P w G.K mg base ["ring", "steps", "fresh", "step", "fars", "least", "many"] "added" (defScope s_added) f cdv A outer s H E) E (defBody s_added) r_added from (urs_alt (ur_here (ur_call pass1 (er_check_ring T) hr (by decide) (ua_cons (u_var (i := 0)) ua_nil) (hl_cons hl_nil))) (ur_next (fuel := 0) (us_expr (u_fc (ok_check_ring T) hr (by decide) (ua_cons (u_var (i := 0)) ua_nil) (hl_cons hl_nil))) (urs_alt (ur_here (ur_call pass1 (er_check_steps T) hr (by decide) (ua_cons (u_var (i := 1)) ua_nil) (hl_cons hl_nil))) (ur_next (fuel := 0) (us_expr (u_fc (ok_check_steps T) hr (by decide) (ua_cons (u_var (i := 1)) ua_nil) (hl_cons hl_nil))) (ur_here (ur_call pass1 (er_check_room T) hr (by decide) (ua_cons (u_var (i := 1)) ua_nil) (hl_cons hl_nil))))))))) (fun ds => by unfold R_added; rfl)
theorem er_twos {P : Program} {w : World} {G : GG} {mg : Str → Option Value} {base : Heap} (T : TX G base mg) : FnE P w G.K mg base G "twos" 8 2 R_twos := fnE (k := 7) (N := ["ring", "steps"]) (R' := r_twos) T.d_twos sc_twos rfl (fun f cdv A outer s H E hr =>
    (show URs G (cxOf (CX1 P w) P w G.K mg base ["ring", "steps"] "twos" (defScope s_twos) f cdv A outer s H E) E (defBody s_twos) r_twos from (ur_here (ur_ret (ure_call pass1 (er_after T) hr (by decide) (ua_cons (u_var (i := 0)) (ua_cons (u_var (i := 1)) (ua_cons u_int (ua_cons u_int ua_nil)))) (hl_cons (hl_cons (hl_cons (hl_cons hl_nil))))))))) (fun ds => by unfold R_twos; rfl)
theorem er_told_back {P : Program} {w : World} {G : GG} {mg : Str → Option Value} {base : Heap} (T : TX G base mg) : FnE P w G.K mg base G "told_back" 4 2 R_told_back := fnE (k := 3) (N := ["ring", "places", "steps"]) (R' := r_told_back) T.d_told_back sc_told_back rfl (fun f cdv A outer s H E hr =>
    (show URs G (cxOf (CX1 P w) P w G.K mg base ["ring", "places", "steps"] "told_back" (defScope s_told_back) f cdv A outer s H E) E (defBody s_told_back) r_told_back from (ur_here (ur_call pass1 (er_check_small_ring T) hr (by decide) (ua_cons (u_var (i := 0)) ua_nil) (hl_cons hl_nil))))) (fun ds => by unfold R_told_back; rfl)
theorem er_how_many {P : Program} {w : World} {G : GG} {mg : Str → Option Value} {base : Heap} (T : TX G base mg) : FnE P w G.K mg base G "how_many" 7 5 R_how_many := fnE (k := 6) (N := ["ring", "steps", "one", "other", "many"]) (R' := r_how_many) T.d_how_many sc_how_many rfl (fun f cdv A outer s H E hr =>
    (show URs G (cxOf (CX1 P w) P w G.K mg base ["ring", "steps", "one", "other", "many"] "how_many" (defScope s_how_many) f cdv A outer s H E) E (defBody s_how_many) r_how_many from (ur_here (ur_call pass1 (er_check_told T) hr (by decide) (ua_cons (u_var (i := 0)) (ua_cons (u_var (i := 1)) (ua_cons (u_l (ul_lst (ua_cons (u_var (i := 2)) (ua_cons (u_var (i := 3)) ua_nil)))) ua_nil))) (hl_cons (hl_cons (hl_cons hl_nil))))))) (fun ds => by unfold R_how_many; rfl)
theorem er_way_by {P : Program} {w : World} {G : GG} {mg : Str → Option Value} {base : Heap} (T : TX G base mg) : FnE P w G.K mg base G "way_by" 7 6 R_way_by_k14 := fnE (k := 6) (N := ["ring", "steps", "one", "other", "many", "number", "rows", "rest", "way", "row", "ways", "count"]) (R' := r_way_by_k14) T.d_way_by sc_way_by rfl (fun f cdv A outer s H E hr =>
    (show URs G (cxOf (CX1 P w) P w G.K mg base ["ring", "steps", "one", "other", "many", "number", "rows", "rest", "way", "row", "ways", "count"] "way_by" (defScope s_way_by) f cdv A outer s H E) E (defBody s_way_by) r_way_by_k14 from (ur_here (ur_call pass1 (er_check_told T) hr (by decide) (ua_cons (u_var (i := 0)) (ua_cons (u_var (i := 1)) (ua_cons (u_l (ul_lst (ua_cons (u_var (i := 2)) (ua_cons (u_var (i := 3)) ua_nil)))) ua_nil))) (hl_cons (hl_cons (hl_cons hl_nil))))))) (fun ds => by unfold R_way_by_k14; rfl)
theorem er_number_of {P : Program} {w : World} {G : GG} {mg : Str → Option Value} {base : Heap} (T : TX G base mg) : FnE P w G.K mg base G "number_of" 6 3 R_number_of := fnE (k := 5) (N := ["ring", "steps", "way", "rows", "rest", "number", "count", "row"]) (R' := r_number_of) T.d_number_of sc_number_of rfl (fun f cdv A outer s H E hr =>
    (show URs G (cxOf (CX1 P w) P w G.K mg base ["ring", "steps", "way", "rows", "rest", "number", "count", "row"] "number_of" (defScope s_number_of) f cdv A outer s H E) E (defBody s_number_of) r_number_of from (urs_alt (ur_here (ur_call pass1 (er_check_ring T) hr (by decide) (ua_cons (u_var (i := 0)) ua_nil) (hl_cons hl_nil))) (ur_next (fuel := 0) (us_expr (u_fc (ok_check_ring T) hr (by decide) (ua_cons (u_var (i := 0)) ua_nil) (hl_cons hl_nil))) (ur_here (ur_call pass1 (er_check_steps T) hr (by decide) (ua_cons (u_var (i := 1)) ua_nil) (hl_cons hl_nil))))))) (fun ds => by unfold R_number_of; rfl)
theorem er_judged {P : Program} {w : World} {G : GG} {mg : Str → Option Value} {base : Heap} (T : TX G base mg) : FnE P w G.K mg base G "judged" 7 4 R_judged := fnE (k := 6) (N := ["ring", "steps", "place", "tale", "line"]) (R' := r_judged) T.d_judged sc_judged rfl (fun f cdv A outer s H E hr =>
    (show URs G (cxOf (CX1 P w) P w G.K mg base ["ring", "steps", "place", "tale", "line"] "judged" (defScope s_judged) f cdv A outer s H E) E (defBody s_judged) r_judged from (ur_here (ur_call pass1 (er_check_told T) hr (by decide) (ua_cons (u_var (i := 0)) (ua_cons (u_var (i := 1)) (ua_cons (u_l (ul_lst (ua_cons (u_var (i := 2)) ua_nil))) ua_nil))) (hl_cons (hl_cons (hl_cons hl_nil))))))) (fun ds => by unfold R_judged; rfl)
theorem mk_Walker {P : Program} {w : World} {G : GG} {mg : Str → Option Value} {base : Heap} (T : TX G base mg) : MkN P w G.K mg base G "Walker" 2 7 3 (wInit F_check_told_k14) := mk_walker (k := 6) T.k_Walker T.f_Walker sc_Walker_init fun f cdv A outer s H E hr => pss_cons (ps_expr (u_fc (ok_check_told T) hr (by decide) (ua_cons (u_var (i := 1)) (ua_cons (u_var (i := 2)) (ua_cons (u_l (ul_lst (ua_cons (u_var (i := 3)) ua_nil))) ua_nil))) (hl_cons (hl_cons (hl_cons hl_nil)))).pe rfl) (pss_cons (ps_fld (pv 0) (pv 1) rfl) (pss_cons (ps_fld (pv 0) (ul_list (ua_cons (u_var (i := 2)) ua_nil) T.z_list).pe rfl) (pss_cons (ps_fld (pv 0) (pv 3) rfl) (pss_cons (ps_fld (pv 0) (ul_lst ua_nil).pe rfl) (pss_cons (ps_fld (pv 0) (ul_rep (u_l (ul_lst (ua_cons u_int ua_nil))) (u_var (i := 1))).pe rfl) (pss_cons (ps_asg pe_int (pg_sub (pe_fld (pv 0) rfl) (pv 3) set_list)) (pss_one (ps_fld (pv 0) (ul_lst ua_nil).pe rfl))))))))
theorem fd_Walker_ring {G : GG} {mg : Str → Option Value} {base : Heap} (T : TX G base mg) : Fd1 G.K G 2 0 "ring" := fd2 T.k_Walker T.f_Walker (by decide) (fun vs hl => match vs, hl with | [_, _, _, _, _, _], _ => rfl) (fun vs y hl => match vs, hl with | [_, _, _, _, _, _], _ => rfl)
theorem fd_Walker_steps {G : GG} {mg : Str → Option Value} {base : Heap} (T : TX G base mg) : Fd1 G.K G 2 1 "steps" := fd2 T.k_Walker T.f_Walker (by decide) (fun vs hl => match vs, hl with | [_, _, _, _, _, _], _ => rfl) (fun vs y hl => match vs, hl with | [_, _, _, _, _, _], _ => rfl)
theorem fd_Walker_at {G : GG} {mg : Str → Option Value} {base : Heap} (T : TX G base mg) : Fd1 G.K G 2 2 "at" := fd2 T.k_Walker T.f_Walker (by decide) (fun vs hl => match vs, hl with | [_, _, _, _, _, _], _ => rfl) (fun vs y hl => match vs, hl with | [_, _, _, _, _, _], _ => rfl)
theorem fd_Walker_counts {G : GG} {mg : Str → Option Value} {base : Heap} (T : TX G base mg) : Fd1 G.K G 2 3 "counts" := fd2 T.k_Walker T.f_Walker (by decide) (fun vs hl => match vs, hl with | [_, _, _, _, _, _], _ => rfl) (fun vs y hl => match vs, hl with | [_, _, _, _, _, _], _ => rfl)
theorem fd_Walker_often {G : GG} {mg : Str → Option Value} {base : Heap} (T : TX G base mg) : Fd1 G.K G 2 4 "often" := fd2 T.k_Walker T.f_Walker (by decide) (fun vs hl => match vs, hl with | [_, _, _, _, _, _], _ => rfl) (fun vs y hl => match vs, hl with | [_, _, _, _, _, _], _ => rfl)
theorem fd_Walker_deeds {G : GG} {mg : Str → Option Value} {base : Heap} (T : TX G base mg) : Fd1 G.K G 2 5 "deeds" := fd2 T.k_Walker T.f_Walker (by decide) (fun vs hl => match vs, hl with | [_, _, _, _, _, _], _ => rfl) (fun vs y hl => match vs, hl with | [_, _, _, _, _, _], _ => rfl)
theorem er_Walker {P : Program} {w : World} {G : GG} {mg : Str → Option Value} {base : Heap} (T : TX G base mg) : MkE P w G.K mg base G "Walker" 2 7 3 R_Walker := mkE (k := 6) (N := ["self", "ring", "steps", "place"]) (R' := r_Walker) T.k_Walker sc_Walker_init rfl (fun f cdv A outer s H E hr =>
    (show URs G (cxOf (CX1 P w) P w G.K mg base ["self", "ring", "steps", "place"] "Walker.__init__" (defScope s_Walker_init) f cdv A outer s H E) E (defBody s_Walker_init) r_Walker from (ur_here (ur_call pass1 (er_check_told T) hr (by decide) (ua_cons (u_var (i := 1)) (ua_cons (u_var (i := 2)) (ua_cons (u_l (ul_lst (ua_cons (u_var (i := 3)) ua_nil))) ua_nil))) (hl_cons (hl_cons (hl_cons hl_nil))))))) (fun ds => by unfold R_Walker; rfl)
theorem ok_Walker_move {P : Program} {w : World} {G : GG} {mg : Str → Option Value} {base : Heap} (T : TX G base mg) : MeM P w G.K mg base G 2 "move" 2 1 F_Walker_move := by
  unfold F_Walker_move
  exact mem_m (x := "") (qi := "") (si := .Pass ⟨0, 0, 0, 0⟩) (fl := []) (k := 1) (N := ["self", "step"]) (u := c_Walker_move) (g := (uC .non)) T.k_Walker.c (by rw [T.f_Walker]; decide) T.d_Walker_move sc_Walker_move rfl (by decide) fun f cdv A outer s H E hr =>
    (show UMr G (cxOf CX0 P w G.K mg base ["self", "step"] "Walker.move" (defScope s_Walker_move) f cdv A outer s H E).nox (defBody s_Walker_move) c_Walker_move (uC .non) from (umr_end (um_cons (um_fset (i := 0) (fd_Walker_at T) (u_fc (ok_led_to T) hr (by decide) (ua_cons (u_fld (fd_Walker_ring T) (u_var (i := 0))) (ua_cons (u_fld (fd_Walker_at T) (u_var (i := 0))) (ua_cons (u_var (i := 1)) ua_nil))) (hl_cons (hl_cons (hl_cons hl_nil)))) (hsm := by rw [T.f_Walker]; decide)) (um_one (um_faug (i := 0) (fd_Walker_often T) (u_fld (fd_Walker_at T) (u_var (i := 0))) u_int)))))
theorem ok_Walker_go {P : Program} {w : World} {G : GG} {mg : Str → Option Value} {base : Heap} (T : TX G base mg) : MeM P w G.K mg base G 2 "go" 4 1 F_Walker_go := by
  unfold F_Walker_go
  exact mem_m (x := "") (qi := "") (si := .Pass ⟨0, 0, 0, 0⟩) (fl := []) (k := 3) (N := ["self", "step"]) (u := c_Walker_go) (g := (uUn (dFld 2 2) (uVar 0))) T.k_Walker.c (by rw [T.f_Walker]; decide) T.d_Walker_go sc_Walker_go rfl (by decide) fun f cdv A outer s H E hr =>
    (show UMr G (cxOf CX0 P w G.K mg base ["self", "step"] "Walker.go" (defScope s_Walker_go) f cdv A outer s H E).nox (defBody s_Walker_go) c_Walker_go (uUn (dFld 2 2) (uVar 0)) from (umr_cons (um_skip (ut_not (ut_val (u_fc (ok_is_count T) hr (by decide) (ua_cons (u_fld (fd_Walker_steps T) (u_var (i := 0))) (ua_cons (u_var (i := 1)) ua_nil)) (hl_cons (hl_cons hl_nil)))))) (umr_cons (um_mcall (i := 0) (ok_Walker_move T) hr (by decide) fl_Walker_move (ua_cons (u_ix (u_fld (fd_Walker_steps T) (u_var (i := 0))) (u_var (i := 1))) ua_nil) (hl_cons hl_nil)) (umr_cons (um_fapp (i := 0) (fd_Walker_counts T) (u_var (i := 1))) (umr_cons (um_fapp (i := 0) (fd_Walker_deeds T) (u_tup (ua_cons u_str (ua_cons (u_var (i := 1)) (ua_cons (u_fld (fd_Walker_at T) (u_var (i := 0))) ua_nil))))) (umr_ret (u_fld (fd_Walker_at T) (u_var (i := 0)))))))))
theorem kd_ok {P : Program} {w : World} {G : GG} {mg : Str → Option Value} {base : Heap} (T : TX G base mg) {C : Addr} {b0 b1 b2 b3 b4 b5 b6 b7 b8 b9 b10 : Bool} (hl : KdL G.K mg C [("BadRing", b0), ("BadSteps", b1), ("BadPlace", b2), ("BadCount", b3), ("BadNumber", b4), ("BadWay", b5), ("BadPlaces", b6), ("BadStep", b7), ("BadTale", b8), ("Nothing", b9), ("ValueError", b10)]) (xc : PySem.W.XCls G.K C) : KindsOk P w G.K mg base "_law_kinds" C ([b0, b1, b2] ++ [b3, b4, b5] ++ [b6, b7, b8] ++ [b9, b10]) := by
  obtain ⟨p0, p1, p2, p3, p4, p5, p6, p7, p8, p9, p10, _⟩ := hl
  exact kindsOk (N := ["_law_error", "_law_found"]) T.d__law_kinds sc__law_kinds rfl fun f cdv A outer s H ea ob hoc =>
    (show KS (cxP P w G.K mg base ["_law_error", "_law_found"] "_law_kinds" (defScope s__law_kinds) f cdv A outer s H ea ob) ea (defBody s__law_kinds) [] ([b0, b1, b2] ++ [b3, b4, b5] ++ [b6, b7, b8] ++ [b9, b10]) from (ks_set (ke_lst (ka_step (C := C) List.mem_cons_self hoc xc T.z_isinstance p0 (ka_step (C := C) List.mem_cons_self hoc xc T.z_isinstance p1 (ka_step (C := C) List.mem_cons_self hoc xc T.z_isinstance p2 ka_nil))) (by simp)) (ks_set (ke_add (ka_step (C := C) List.mem_cons_self hoc xc T.z_isinstance p3 (ka_step (C := C) List.mem_cons_self hoc xc T.z_isinstance p4 (ka_step (C := C) List.mem_cons_self hoc xc T.z_isinstance p5 ka_nil))) (by simp) (by intro h; cases h)) (ks_set (ke_add (ka_step (C := C) List.mem_cons_self hoc xc T.z_isinstance p6 (ka_step (C := C) List.mem_cons_self hoc xc T.z_isinstance p7 (ka_step (C := C) List.mem_cons_self hoc xc T.z_isinstance p8 ka_nil))) (by simp) (by intro h; cases h)) (ks_ret (ke_add (ka_step (C := C) List.mem_cons_self hoc xc T.z_isinstance p9 (ka_step (C := C) List.mem_cons_self hoc xc T.z_isinstance p10 ka_nil)) (by simp) (by intro h; cases h))) sc__law_kinds.nd) sc__law_kinds.nd) sc__law_kinds.nd))
theorem kds {P : Program} {w : World} {G : GG} {mg : Str → Option Value} {base : Heap} (T : TX G base mg) : ∀ y bs, kd_14 y = some bs → ∃ C Dh, mg y = some (.ref C) ∧ mg "RoundError" = some (.ref Dh) ∧ PySem.W.exmOne G.K (.ref C) (.ref Dh) = some true ∧ KindsOk P w G.K mg base "_law_kinds" C bs := fun y bs h => by
  unfold kd_14 at h
  split at h
  · rename_i e; subst e; cases h
    obtain ⟨C, Dh, h1, h2, h3, h4, h5⟩ := T.kx_BadRing.ex
    exact ⟨C, Dh, h1, h2, h3, kd_ok T h5 h4⟩
  rename_i ne_BadRing
  split at h
  · rename_i e; subst e; cases h
    obtain ⟨C, Dh, h1, h2, h3, h4, h5⟩ := T.kx_BadSteps.ex
    exact ⟨C, Dh, h1, h2, h3, kd_ok T h5 h4⟩
  rename_i ne_BadSteps
  split at h
  · rename_i e; subst e; cases h
    obtain ⟨C, Dh, h1, h2, h3, h4, h5⟩ := T.kx_BadPlace.ex
    exact ⟨C, Dh, h1, h2, h3, kd_ok T h5 h4⟩
  rename_i ne_BadPlace
  cases h
theorem sl_0 : FnScope ["_law_one"] ["_law_one"] (LL 0).sc := ⟨rfl, rfl, rfl, by decide +kernel, rfl, by decide +kernel, by decide +kernel⟩
theorem le_0 {P : Program} {w : World} {G : GG} {mg : Str → Option Value} {base : Heap} (T : TX G base mg) : LamE P w G.K mg base G 0 8 (fun ds => r_lam14_0 (startD 1 ds)) := lamE (L := LL) (k := 7) (n := 0) (q := (LL 0).q) (x := "_law_one") (params := (LL 0).ps) (body := (LL 0).body) (sc := (LL 0).sc) (N := ["_law_one"]) (R' := r_lam14_0) T.exs rfl sl_0 (fun s u pm c' ctv => .of_eq rfl) (fun f c' A outer s H E hr =>
    (show URe G (cxOf (CX1 P w) P w G.K mg base ["_law_one"] (LL 0).q (LL 0).sc f (.ref c') A outer s H E) E (LL 0).body r_lam14_0 from (ure_call pass1 (er_told T) hr (by decide) (ua_cons u_int (ua_cons (u_var (i := 0)) (ua_cons u_non (ua_cons u_non ua_nil)))) (hl_cons (hl_cons (hl_cons (hl_cons hl_nil))))))) (fun ds => rfl)
theorem sl_1 : FnScope ["_law_two"] ["_law_two"] (LL 1).sc := ⟨rfl, rfl, rfl, by decide +kernel, rfl, by decide +kernel, by decide +kernel⟩
theorem le_1 {P : Program} {w : World} {G : GG} {mg : Str → Option Value} {base : Heap} (T : TX G base mg) : LamE P w G.K mg base G 1 8 (fun ds => r_lam14_1 (startD 1 ds)) := lamE (L := LL) (k := 7) (n := 1) (q := (LL 1).q) (x := "_law_two") (params := (LL 1).ps) (body := (LL 1).body) (sc := (LL 1).sc) (N := ["_law_two"]) (R' := r_lam14_1) T.exs rfl sl_1 (fun s u pm c' ctv => .of_eq rfl) (fun f c' A outer s H E hr =>
    (show URe G (cxOf (CX1 P w) P w G.K mg base ["_law_two"] (LL 1).q (LL 1).sc f (.ref c') A outer s H E) E (LL 1).body r_lam14_1 from (ure_call pass1 (er_nearest T) hr (by decide) (ua_cons u_int (ua_cons (u_var (i := 0)) (ua_cons u_non ua_nil))) (hl_cons (hl_cons (hl_cons hl_nil)))))) (fun ds => rfl)
theorem sl_2 : FnScope ["_law_it"] ["_law_it"] (LL 2).sc := ⟨rfl, rfl, rfl, by decide +kernel, rfl, by decide +kernel, by decide +kernel⟩
theorem le_2 {P : Program} {w : World} {G : GG} {mg : Str → Option Value} {base : Heap} (T : TX G base mg) : LamE P w G.K mg base G 2 7 (fun ds => r_lam14_2 (startD 1 ds)) := lamE (L := LL) (k := 6) (n := 2) (q := (LL 2).q) (x := "_law_it") (params := (LL 2).ps) (body := (LL 2).body) (sc := (LL 2).sc) (N := ["_law_it"]) (R' := r_lam14_2) T.exs rfl sl_2 (fun s u pm c' ctv => .of_eq rfl) (fun f c' A outer s H E hr =>
    (show URe G (cxOf (CX1 P w) P w G.K mg base ["_law_it"] (LL 2).q (LL 2).sc f (.ref c') A outer s H E) E (LL 2).body r_lam14_2 from (ure_call pass1 (er_far T) hr (by decide) (ua_cons u_int (ua_cons (u_var (i := 0)) ua_nil)) (hl_cons (hl_cons hl_nil))))) (fun ds => rfl)
theorem sl_3 : FnScope ["_law_one"] ["_law_one"] (LL 3).sc := ⟨rfl, rfl, rfl, by decide +kernel, rfl, by decide +kernel, by decide +kernel⟩
theorem le_3 {P : Program} {w : World} {G : GG} {mg : Str → Option Value} {base : Heap} (T : TX G base mg) : LamE P w G.K mg base G 3 8 (fun ds => r_lam14_3 (startD 1 ds)) := lamE (L := LL) (k := 7) (n := 3) (q := (LL 3).q) (x := "_law_one") (params := (LL 3).ps) (body := (LL 3).body) (sc := (LL 3).sc) (N := ["_law_one"]) (R' := r_lam14_3) T.exs rfl sl_3 (fun s u pm c' ctv => .of_eq rfl) (fun f c' A outer s H E hr =>
    (show URe G (cxOf (CX1 P w) P w G.K mg base ["_law_one"] (LL 3).q (LL 3).sc f (.ref c') A outer s H E) E (LL 3).body r_lam14_3 from (ure_call pass1 (er_how_many T) hr (by decide) (ua_cons u_int (ua_cons (u_var (i := 0)) (ua_cons u_non (ua_cons u_non (ua_cons u_non ua_nil))))) (hl_cons (hl_cons (hl_cons (hl_cons (hl_cons hl_nil)))))))) (fun ds => rfl)
theorem sl_4 : FnScope ["_law_two"] ["_law_two"] (LL 4).sc := ⟨rfl, rfl, rfl, by decide +kernel, rfl, by decide +kernel, by decide +kernel⟩
theorem le_4 {P : Program} {w : World} {G : GG} {mg : Str → Option Value} {base : Heap} (T : TX G base mg) : LamE P w G.K mg base G 4 8 (fun ds => r_lam14_4 (startD 1 ds)) := lamE (L := LL) (k := 7) (n := 4) (q := (LL 4).q) (x := "_law_two") (params := (LL 4).ps) (body := (LL 4).body) (sc := (LL 4).sc) (N := ["_law_two"]) (R' := r_lam14_4) T.exs rfl sl_4 (fun s u pm c' ctv => .of_eq rfl) (fun f c' A outer s H E hr =>
    (show URe G (cxOf (CX1 P w) P w G.K mg base ["_law_two"] (LL 4).q (LL 4).sc f (.ref c') A outer s H E) E (LL 4).body r_lam14_4 from (ure_call pass1 (er_way_by T) hr (by decide) (ua_cons u_int (ua_cons (u_var (i := 0)) (ua_cons u_int (ua_cons u_int (ua_cons u_int (ua_cons u_int ua_nil)))))) (hl_cons (hl_cons (hl_cons (hl_cons (hl_cons (hl_cons hl_nil))))))))) (fun ds => rfl)
theorem sl_5 : FnScope ["_law_one"] ["_law_one"] (LL 5).sc := ⟨rfl, rfl, rfl, by decide +kernel, rfl, by decide +kernel, by decide +kernel⟩
theorem le_5 {P : Program} {w : World} {G : GG} {mg : Str → Option Value} {base : Heap} (T : TX G base mg) : LamE P w G.K mg base G 5 7 (fun ds => r_lam14_5 (startD 1 ds)) := lamE (L := LL) (k := 6) (n := 5) (q := (LL 5).q) (x := "_law_one") (params := (LL 5).ps) (body := (LL 5).body) (sc := (LL 5).sc) (N := ["_law_one"]) (R' := r_lam14_5) T.exs rfl sl_5 (fun s u pm c' ctv => .of_eq rfl) (fun f c' A outer s H E hr =>
    (show URe G (cxOf (CX1 P w) P w G.K mg base ["_law_one"] (LL 5).q (LL 5).sc f (.ref c') A outer s H E) E (LL 5).body r_lam14_5 from (ure_call pass1 (er_number_of T) hr (by decide) (ua_cons u_int (ua_cons (u_var (i := 0)) (ua_cons u_non ua_nil))) (hl_cons (hl_cons (hl_cons hl_nil)))))) (fun ds => rfl)
theorem sl_6 : FnScope ["_law_two"] ["_law_two"] (LL 6).sc := ⟨rfl, rfl, rfl, by decide +kernel, rfl, by decide +kernel, by decide +kernel⟩
theorem le_6 {P : Program} {w : World} {G : GG} {mg : Str → Option Value} {base : Heap} (T : TX G base mg) : LamE P w G.K mg base G 6 8 (fun ds => r_lam14_6 (startD 1 ds)) := lamE (L := LL) (k := 7) (n := 6) (q := (LL 6).q) (x := "_law_two") (params := (LL 6).ps) (body := (LL 6).body) (sc := (LL 6).sc) (N := ["_law_two"]) (R' := r_lam14_6) T.exs rfl sl_6 (fun s u pm c' ctv => .of_eq rfl) (fun f c' A outer s H E hr =>
    (show URe G (cxOf (CX1 P w) P w G.K mg base ["_law_two"] (LL 6).q (LL 6).sc f (.ref c') A outer s H E) E (LL 6).body r_lam14_6 from (ure_call pass1 (er_after T) hr (by decide) (ua_cons u_int (ua_cons (u_var (i := 0)) (ua_cons u_non (ua_cons u_non ua_nil)))) (hl_cons (hl_cons (hl_cons (hl_cons hl_nil))))))) (fun ds => rfl)
theorem sl_7 : FnScope ["_law_one"] ["_law_one"] (LL 7).sc := ⟨rfl, rfl, rfl, by decide +kernel, rfl, by decide +kernel, by decide +kernel⟩
theorem le_7 {P : Program} {w : World} {G : GG} {mg : Str → Option Value} {base : Heap} (T : TX G base mg) : LamE P w G.K mg base G 7 7 (fun ds => r_lam14_7 (startD 1 ds)) := lamE (L := LL) (k := 6) (n := 7) (q := (LL 7).q) (x := "_law_one") (params := (LL 7).ps) (body := (LL 7).body) (sc := (LL 7).sc) (N := ["_law_one"]) (R' := r_lam14_7) T.exs rfl sl_7 (fun s u pm c' ctv => .of_eq rfl) (fun f c' A outer s H E hr =>
    (show URe G (cxOf (CX1 P w) P w G.K mg base ["_law_one"] (LL 7).q (LL 7).sc f (.ref c') A outer s H E) E (LL 7).body r_lam14_7 from (ure_call pass1 (er_every T) hr (by decide) (ua_cons u_int (ua_cons (u_var (i := 0)) ua_nil)) (hl_cons (hl_cons hl_nil))))) (fun ds => rfl)
theorem sl_8 : FnScope ["_law_two"] ["_law_two"] (LL 8).sc := ⟨rfl, rfl, rfl, by decide +kernel, rfl, by decide +kernel, by decide +kernel⟩
theorem le_8 {P : Program} {w : World} {G : GG} {mg : Str → Option Value} {base : Heap} (T : TX G base mg) : LamE P w G.K mg base G 8 7 (fun ds => r_lam14_8 (startD 1 ds)) := lamE (L := LL) (k := 6) (n := 8) (q := (LL 8).q) (x := "_law_two") (params := (LL 8).ps) (body := (LL 8).body) (sc := (LL 8).sc) (N := ["_law_two"]) (R' := r_lam14_8) T.exs rfl sl_8 (fun s u pm c' ctv => .of_eq rfl) (fun f c' A outer s H E hr =>
    (show URe G (cxOf (CX1 P w) P w G.K mg base ["_law_two"] (LL 8).q (LL 8).sc f (.ref c') A outer s H E) E (LL 8).body r_lam14_8 from (ure_call pass1 (er_added T) hr (by decide) (ua_cons u_int (ua_cons (u_var (i := 0)) ua_nil)) (hl_cons (hl_cons hl_nil))))) (fun ds => rfl)
theorem sl_9 : FnScope ["_law_it"] ["_law_it"] (LL 9).sc := ⟨rfl, rfl, rfl, by decide +kernel, rfl, by decide +kernel, by decide +kernel⟩
theorem le_9 {P : Program} {w : World} {G : GG} {mg : Str → Option Value} {base : Heap} (T : TX G base mg) : LamE P w G.K mg base G 9 9 (fun ds => r_lam14_9 (startD 1 ds)) := lamE (L := LL) (k := 8) (n := 9) (q := (LL 9).q) (x := "_law_it") (params := (LL 9).ps) (body := (LL 9).body) (sc := (LL 9).sc) (N := ["_law_it"]) (R' := r_lam14_9) T.exs rfl sl_9 (fun s u pm c' ctv => .of_eq rfl) (fun f c' A outer s H E hr =>
    (show URe G (cxOf (CX1 P w) P w G.K mg base ["_law_it"] (LL 9).q (LL 9).sc f (.ref c') A outer s H E) E (LL 9).body r_lam14_9 from (ure_call pass1 (er_twos T) hr (by decide) (ua_cons u_int (ua_cons (u_var (i := 0)) ua_nil)) (hl_cons (hl_cons hl_nil))))) (fun ds => rfl)
theorem sl_10 : FnScope ["_law_one"] ["_law_one"] (LL 10).sc := ⟨rfl, rfl, rfl, by decide +kernel, rfl, by decide +kernel, by decide +kernel⟩
theorem le_10 {P : Program} {w : World} {G : GG} {mg : Str → Option Value} {base : Heap} (T : TX G base mg) : LamE P w G.K mg base G 10 8 (fun ds => r_lam14_10 (startD 1 ds)) := lamE (L := LL) (k := 7) (n := 10) (q := (LL 10).q) (x := "_law_one") (params := (LL 10).ps) (body := (LL 10).body) (sc := (LL 10).sc) (N := ["_law_one"]) (R' := r_lam14_10) T.exs rfl sl_10 (fun s u pm c' ctv => .of_eq rfl) (fun f c' A outer s H E hr =>
    (show URe G (cxOf (CX1 P w) P w G.K mg base ["_law_one"] (LL 10).q (LL 10).sc f (.ref c') A outer s H E) E (LL 10).body r_lam14_10 from (ure_call pass1 (er_judged T) hr (by decide) (ua_cons u_int (ua_cons (u_var (i := 0)) (ua_cons u_non (ua_cons u_non ua_nil)))) (hl_cons (hl_cons (hl_cons (hl_cons hl_nil))))))) (fun ds => rfl)
theorem sl_11 : FnScope ["_law_two"] ["_law_two"] (LL 11).sc := ⟨rfl, rfl, rfl, by decide +kernel, rfl, by decide +kernel, by decide +kernel⟩
theorem le_11 {P : Program} {w : World} {G : GG} {mg : Str → Option Value} {base : Heap} (T : TX G base mg) : LamE P w G.K mg base G 11 9 (fun ds => r_lam14_11 (startD 1 ds)) := lamE (L := LL) (k := 8) (n := 11) (q := (LL 11).q) (x := "_law_two") (params := (LL 11).ps) (body := (LL 11).body) (sc := (LL 11).sc) (N := ["_law_two"]) (R' := r_lam14_11) T.exs rfl sl_11 (fun s u pm c' ctv => .of_eq rfl) (fun f c' A outer s H E hr =>
    (show URe G (cxOf (CX1 P w) P w G.K mg base ["_law_two"] (LL 11).q (LL 11).sc f (.ref c') A outer s H E) E (LL 11).body r_lam14_11 from (ure_make pass1 (er_Walker T) hr (by decide) (ua_cons u_int (ua_cons (u_var (i := 0)) (ua_cons u_non ua_nil))) (hl_cons (hl_cons (hl_cons hl_nil)))))) (fun ds => rfl)
theorem sl_12 : FnScope ["_law_one"] ["_law_one"] (LL 12).sc := ⟨rfl, rfl, rfl, by decide +kernel, rfl, by decide +kernel, by decide +kernel⟩
theorem le_12 {P : Program} {w : World} {G : GG} {mg : Str → Option Value} {base : Heap} (T : TX G base mg) : LamE P w G.K mg base G 12 7 (fun ds => r_lam14_12 (startD 1 ds)) := lamE (L := LL) (k := 6) (n := 12) (q := (LL 12).q) (x := "_law_one") (params := (LL 12).ps) (body := (LL 12).body) (sc := (LL 12).sc) (N := ["_law_one"]) (R' := r_lam14_12) T.exs rfl sl_12 (fun s u pm c' ctv => .of_eq rfl) (fun f c' A outer s H E hr =>
    (show URe G (cxOf (CX1 P w) P w G.K mg base ["_law_one"] (LL 12).q (LL 12).sc f (.ref c') A outer s H E) E (LL 12).body r_lam14_12 from (ure_call pass1 (er_added T) hr (by decide) (ua_cons u_int (ua_cons (u_var (i := 0)) ua_nil)) (hl_cons (hl_cons hl_nil))))) (fun ds => rfl)
theorem sl_13 : FnScope ["_law_one"] ["_law_one"] (LL 13).sc := ⟨rfl, rfl, rfl, by decide +kernel, rfl, by decide +kernel, by decide +kernel⟩
theorem le_13 {P : Program} {w : World} {G : GG} {mg : Str → Option Value} {base : Heap} (T : TX G base mg) : LamE P w G.K mg base G 13 8 (fun ds => r_lam14_13 (startD 1 ds)) := lamE (L := LL) (k := 7) (n := 13) (q := (LL 13).q) (x := "_law_one") (params := (LL 13).ps) (body := (LL 13).body) (sc := (LL 13).sc) (N := ["_law_one"]) (R' := r_lam14_13) T.exs rfl sl_13 (fun s u pm c' ctv => .of_eq rfl) (fun f c' A outer s H E hr =>
    (show URe G (cxOf (CX1 P w) P w G.K mg base ["_law_one"] (LL 13).q (LL 13).sc f (.ref c') A outer s H E) E (LL 13).body r_lam14_13 from (ure_call pass1 (er_told T) hr (by decide) (ua_cons u_int (ua_cons (u_l (ul_lst (ua_cons u_int ua_nil))) (ua_cons (u_var (i := 0)) (ua_cons u_non ua_nil)))) (hl_cons (hl_cons (hl_cons (hl_cons hl_nil))))))) (fun ds => rfl)
theorem sl_14 : FnScope ["_law_two"] ["_law_two"] (LL 14).sc := ⟨rfl, rfl, rfl, by decide +kernel, rfl, by decide +kernel, by decide +kernel⟩
theorem le_14 {P : Program} {w : World} {G : GG} {mg : Str → Option Value} {base : Heap} (T : TX G base mg) : LamE P w G.K mg base G 14 8 (fun ds => r_lam14_14 (startD 1 ds)) := lamE (L := LL) (k := 7) (n := 14) (q := (LL 14).q) (x := "_law_two") (params := (LL 14).ps) (body := (LL 14).body) (sc := (LL 14).sc) (N := ["_law_two"]) (R' := r_lam14_14) T.exs rfl sl_14 (fun s u pm c' ctv => .of_eq rfl) (fun f c' A outer s H E hr =>
    (show URe G (cxOf (CX1 P w) P w G.K mg base ["_law_two"] (LL 14).q (LL 14).sc f (.ref c') A outer s H E) E (LL 14).body r_lam14_14 from (ure_call pass1 (er_told T) hr (by decide) (ua_cons u_int (ua_cons (u_l (ul_lst (ua_cons u_int ua_nil))) (ua_cons u_int (ua_cons (u_var (i := 0)) ua_nil)))) (hl_cons (hl_cons (hl_cons (hl_cons hl_nil))))))) (fun ds => rfl)
theorem sl_15 : FnScope ["_law_it"] ["_law_it"] (LL 15).sc := ⟨rfl, rfl, rfl, by decide +kernel, rfl, by decide +kernel, by decide +kernel⟩
theorem le_15 {P : Program} {w : World} {G : GG} {mg : Str → Option Value} {base : Heap} (T : TX G base mg) : LamE P w G.K mg base G 15 8 (fun ds => r_lam14_15 (startD 1 ds)) := lamE (L := LL) (k := 7) (n := 15) (q := (LL 15).q) (x := "_law_it") (params := (LL 15).ps) (body := (LL 15).body) (sc := (LL 15).sc) (N := ["_law_it"]) (R' := r_lam14_15) T.exs rfl sl_15 (fun s u pm c' ctv => .of_eq rfl) (fun f c' A outer s H E hr =>
    (show URe G (cxOf (CX1 P w) P w G.K mg base ["_law_it"] (LL 15).q (LL 15).sc f (.ref c') A outer s H E) E (LL 15).body r_lam14_15 from (ure_call pass1 (er_nearest T) hr (by decide) (ua_cons u_int (ua_cons (u_l (ul_lst (ua_cons u_int ua_nil))) (ua_cons (u_var (i := 0)) ua_nil))) (hl_cons (hl_cons (hl_cons hl_nil)))))) (fun ds => rfl)
theorem sl_16 : FnScope ["_law_one"] ["_law_one"] (LL 16).sc := ⟨rfl, rfl, rfl, by decide +kernel, rfl, by decide +kernel, by decide +kernel⟩
theorem le_16 {P : Program} {w : World} {G : GG} {mg : Str → Option Value} {base : Heap} (T : TX G base mg) : LamE P w G.K mg base G 16 8 (fun ds => r_lam14_16 (startD 1 ds)) := lamE (L := LL) (k := 7) (n := 16) (q := (LL 16).q) (x := "_law_one") (params := (LL 16).ps) (body := (LL 16).body) (sc := (LL 16).sc) (N := ["_law_one"]) (R' := r_lam14_16) T.exs rfl sl_16 (fun s u pm c' ctv => .of_eq rfl) (fun f c' A outer s H E hr =>
    (show URe G (cxOf (CX1 P w) P w G.K mg base ["_law_one"] (LL 16).q (LL 16).sc f (.ref c') A outer s H E) E (LL 16).body r_lam14_16 from (ure_call pass1 (er_how_many T) hr (by decide) (ua_cons u_int (ua_cons (u_l (ul_lst (ua_cons u_int ua_nil))) (ua_cons (u_var (i := 0)) (ua_cons u_int (ua_cons u_non ua_nil))))) (hl_cons (hl_cons (hl_cons (hl_cons (hl_cons hl_nil)))))))) (fun ds => rfl)
theorem sl_17 : FnScope ["_law_two"] ["_law_two"] (LL 17).sc := ⟨rfl, rfl, rfl, by decide +kernel, rfl, by decide +kernel, by decide +kernel⟩
theorem le_17 {P : Program} {w : World} {G : GG} {mg : Str → Option Value} {base : Heap} (T : TX G base mg) : LamE P w G.K mg base G 17 8 (fun ds => r_lam14_17 (startD 1 ds)) := lamE (L := LL) (k := 7) (n := 17) (q := (LL 17).q) (x := "_law_two") (params := (LL 17).ps) (body := (LL 17).body) (sc := (LL 17).sc) (N := ["_law_two"]) (R' := r_lam14_17) T.exs rfl sl_17 (fun s u pm c' ctv => .of_eq rfl) (fun f c' A outer s H E hr =>
    (show URe G (cxOf (CX1 P w) P w G.K mg base ["_law_two"] (LL 17).q (LL 17).sc f (.ref c') A outer s H E) E (LL 17).body r_lam14_17 from (ure_call pass1 (er_how_many T) hr (by decide) (ua_cons u_int (ua_cons (u_l (ul_lst (ua_cons u_int ua_nil))) (ua_cons u_int (ua_cons (u_var (i := 0)) (ua_cons u_non ua_nil))))) (hl_cons (hl_cons (hl_cons (hl_cons (hl_cons hl_nil)))))))) (fun ds => rfl)
theorem sl_18 : FnScope ["_law_one"] ["_law_one"] (LL 18).sc := ⟨rfl, rfl, rfl, by decide +kernel, rfl, by decide +kernel, by decide +kernel⟩
theorem le_18 {P : Program} {w : World} {G : GG} {mg : Str → Option Value} {base : Heap} (T : TX G base mg) : LamE P w G.K mg base G 18 8 (fun ds => r_lam14_18 (startD 1 ds)) := lamE (L := LL) (k := 7) (n := 18) (q := (LL 18).q) (x := "_law_one") (params := (LL 18).ps) (body := (LL 18).body) (sc := (LL 18).sc) (N := ["_law_one"]) (R' := r_lam14_18) T.exs rfl sl_18 (fun s u pm c' ctv => .of_eq rfl) (fun f c' A outer s H E hr =>
    (show URe G (cxOf (CX1 P w) P w G.K mg base ["_law_one"] (LL 18).q (LL 18).sc f (.ref c') A outer s H E) E (LL 18).body r_lam14_18 from (ure_call pass1 (er_way_by T) hr (by decide) (ua_cons u_int (ua_cons (u_l (ul_lst (ua_cons u_int ua_nil))) (ua_cons (u_var (i := 0)) (ua_cons u_int (ua_cons u_int (ua_cons u_int ua_nil)))))) (hl_cons (hl_cons (hl_cons (hl_cons (hl_cons (hl_cons hl_nil))))))))) (fun ds => rfl)
theorem sl_19 : FnScope ["_law_two"] ["_law_two"] (LL 19).sc := ⟨rfl, rfl, rfl, by decide +kernel, rfl, by decide +kernel, by decide +kernel⟩
theorem le_19 {P : Program} {w : World} {G : GG} {mg : Str → Option Value} {base : Heap} (T : TX G base mg) : LamE P w G.K mg base G 19 8 (fun ds => r_lam14_19 (startD 1 ds)) := lamE (L := LL) (k := 7) (n := 19) (q := (LL 19).q) (x := "_law_two") (params := (LL 19).ps) (body := (LL 19).body) (sc := (LL 19).sc) (N := ["_law_two"]) (R' := r_lam14_19) T.exs rfl sl_19 (fun s u pm c' ctv => .of_eq rfl) (fun f c' A outer s H E hr =>
    (show URe G (cxOf (CX1 P w) P w G.K mg base ["_law_two"] (LL 19).q (LL 19).sc f (.ref c') A outer s H E) E (LL 19).body r_lam14_19 from (ure_call pass1 (er_way_by T) hr (by decide) (ua_cons u_int (ua_cons (u_l (ul_lst (ua_cons u_int ua_nil))) (ua_cons u_int (ua_cons (u_var (i := 0)) (ua_cons u_non (ua_cons u_non ua_nil)))))) (hl_cons (hl_cons (hl_cons (hl_cons (hl_cons (hl_cons hl_nil))))))))) (fun ds => rfl)
theorem sl_20 : FnScope ["_law_one"] ["_law_one"] (LL 20).sc := ⟨rfl, rfl, rfl, by decide +kernel, rfl, by decide +kernel, by decide +kernel⟩
theorem le_20 {P : Program} {w : World} {G : GG} {mg : Str → Option Value} {base : Heap} (T : TX G base mg) : LamE P w G.K mg base G 20 8 (fun ds => r_lam14_20 (startD 1 ds)) := lamE (L := LL) (k := 7) (n := 20) (q := (LL 20).q) (x := "_law_one") (params := (LL 20).ps) (body := (LL 20).body) (sc := (LL 20).sc) (N := ["_law_one"]) (R' := r_lam14_20) T.exs rfl sl_20 (fun s u pm c' ctv => .of_eq rfl) (fun f c' A outer s H E hr =>
    (show URe G (cxOf (CX1 P w) P w G.K mg base ["_law_one"] (LL 20).q (LL 20).sc f (.ref c') A outer s H E) E (LL 20).body r_lam14_20 from (ure_call pass1 (er_after T) hr (by decide) (ua_cons u_int (ua_cons (u_l (ul_lst (ua_cons u_int ua_nil))) (ua_cons (u_var (i := 0)) (ua_cons u_non ua_nil)))) (hl_cons (hl_cons (hl_cons (hl_cons hl_nil))))))) (fun ds => rfl)
theorem sl_21 : FnScope ["_law_two"] ["_law_two"] (LL 21).sc := ⟨rfl, rfl, rfl, by decide +kernel, rfl, by decide +kernel, by decide +kernel⟩
theorem le_21 {P : Program} {w : World} {G : GG} {mg : Str → Option Value} {base : Heap} (T : TX G base mg) : LamE P w G.K mg base G 21 8 (fun ds => r_lam14_21 (startD 1 ds)) := lamE (L := LL) (k := 7) (n := 21) (q := (LL 21).q) (x := "_law_two") (params := (LL 21).ps) (body := (LL 21).body) (sc := (LL 21).sc) (N := ["_law_two"]) (R' := r_lam14_21) T.exs rfl sl_21 (fun s u pm c' ctv => .of_eq rfl) (fun f c' A outer s H E hr =>
    (show URe G (cxOf (CX1 P w) P w G.K mg base ["_law_two"] (LL 21).q (LL 21).sc f (.ref c') A outer s H E) E (LL 21).body r_lam14_21 from (ure_call pass1 (er_judged T) hr (by decide) (ua_cons u_int (ua_cons (u_l (ul_lst (ua_cons u_int ua_nil))) (ua_cons (u_var (i := 0)) (ua_cons u_non ua_nil)))) (hl_cons (hl_cons (hl_cons (hl_cons hl_nil))))))) (fun ds => rfl)
theorem sl_22 : FnScope ["_law_one"] ["_law_one"] (LL 22).sc := ⟨rfl, rfl, rfl, by decide +kernel, rfl, by decide +kernel, by decide +kernel⟩
theorem le_22 {P : Program} {w : World} {G : GG} {mg : Str → Option Value} {base : Heap} (T : TX G base mg) : LamE P w G.K mg base G 22 9 (fun ds => r_lam14_22 (startD 1 ds)) := lamE (L := LL) (k := 8) (n := 22) (q := (LL 22).q) (x := "_law_one") (params := (LL 22).ps) (body := (LL 22).body) (sc := (LL 22).sc) (N := ["_law_one"]) (R' := r_lam14_22) T.exs rfl sl_22 (fun s u pm c' ctv => .of_eq rfl) (fun f c' A outer s H E hr =>
    (show URe G (cxOf (CX1 P w) P w G.K mg base ["_law_one"] (LL 22).q (LL 22).sc f (.ref c') A outer s H E) E (LL 22).body r_lam14_22 from (ure_make pass1 (er_Walker T) hr (by decide) (ua_cons u_int (ua_cons (u_l (ul_lst (ua_cons u_int ua_nil))) (ua_cons (u_var (i := 0)) ua_nil))) (hl_cons (hl_cons (hl_cons hl_nil)))))) (fun ds => rfl)
theorem sl_23 : FnScope ["_law_one"] ["_law_one"] (LL 23).sc := ⟨rfl, rfl, rfl, by decide +kernel, rfl, by decide +kernel, by decide +kernel⟩
theorem le_23 {P : Program} {w : World} {G : GG} {mg : Str → Option Value} {base : Heap} (T : TX G base mg) : LamE P w G.K mg base G 23 8 (fun ds => r_lam14_23 (startD 1 ds)) := lamE (L := LL) (k := 7) (n := 23) (q := (LL 23).q) (x := "_law_one") (params := (LL 23).ps) (body := (LL 23).body) (sc := (LL 23).sc) (N := ["_law_one"]) (R' := r_lam14_23) T.exs rfl sl_23 (fun s u pm c' ctv => .of_eq rfl) (fun f c' A outer s H E hr =>
    (show URe G (cxOf (CX1 P w) P w G.K mg base ["_law_one"] (LL 23).q (LL 23).sc f (.ref c') A outer s H E) E (LL 23).body r_lam14_23 from (ure_call pass1 (er_told T) hr (by decide) (ua_cons u_int (ua_cons (u_l (ul_lst (ua_cons u_int ua_nil))) (ua_cons (u_var (i := 0)) (ua_cons u_int ua_nil)))) (hl_cons (hl_cons (hl_cons (hl_cons hl_nil))))))) (fun ds => rfl)
theorem sl_24 : FnScope ["_law_two"] ["_law_two"] (LL 24).sc := ⟨rfl, rfl, rfl, by decide +kernel, rfl, by decide +kernel, by decide +kernel⟩
theorem le_24 {P : Program} {w : World} {G : GG} {mg : Str → Option Value} {base : Heap} (T : TX G base mg) : LamE P w G.K mg base G 24 8 (fun ds => r_lam14_24 (startD 1 ds)) := lamE (L := LL) (k := 7) (n := 24) (q := (LL 24).q) (x := "_law_two") (params := (LL 24).ps) (body := (LL 24).body) (sc := (LL 24).sc) (N := ["_law_two"]) (R' := r_lam14_24) T.exs rfl sl_24 (fun s u pm c' ctv => .of_eq rfl) (fun f c' A outer s H E hr =>
    (show URe G (cxOf (CX1 P w) P w G.K mg base ["_law_two"] (LL 24).q (LL 24).sc f (.ref c') A outer s H E) E (LL 24).body r_lam14_24 from (ure_call pass1 (er_how_many T) hr (by decide) (ua_cons u_int (ua_cons (u_l (ul_lst (ua_cons u_int ua_nil))) (ua_cons (u_var (i := 0)) (ua_cons u_int (ua_cons u_int ua_nil))))) (hl_cons (hl_cons (hl_cons (hl_cons (hl_cons hl_nil)))))))) (fun ds => rfl)
theorem sl_25 : FnScope ["_law_one"] ["_law_one"] (LL 25).sc := ⟨rfl, rfl, rfl, by decide +kernel, rfl, by decide +kernel, by decide +kernel⟩
theorem le_25 {P : Program} {w : World} {G : GG} {mg : Str → Option Value} {base : Heap} (T : TX G base mg) : LamE P w G.K mg base G 25 8 (fun ds => r_lam14_25 (startD 1 ds)) := lamE (L := LL) (k := 7) (n := 25) (q := (LL 25).q) (x := "_law_one") (params := (LL 25).ps) (body := (LL 25).body) (sc := (LL 25).sc) (N := ["_law_one"]) (R' := r_lam14_25) T.exs rfl sl_25 (fun s u pm c' ctv => .of_eq rfl) (fun f c' A outer s H E hr =>
    (show URe G (cxOf (CX1 P w) P w G.K mg base ["_law_one"] (LL 25).q (LL 25).sc f (.ref c') A outer s H E) E (LL 25).body r_lam14_25 from (ure_call pass1 (er_way_by T) hr (by decide) (ua_cons u_int (ua_cons (u_l (ul_lst (ua_cons u_int ua_nil))) (ua_cons (u_var (i := 0)) (ua_cons u_int (ua_cons u_int (ua_cons u_int ua_nil)))))) (hl_cons (hl_cons (hl_cons (hl_cons (hl_cons (hl_cons hl_nil))))))))) (fun ds => rfl)
theorem sl_26 : FnScope ["_law_one"] ["_law_one"] (LL 26).sc := ⟨rfl, rfl, rfl, by decide +kernel, rfl, by decide +kernel, by decide +kernel⟩
theorem le_26 {P : Program} {w : World} {G : GG} {mg : Str → Option Value} {base : Heap} (T : TX G base mg) : LamE P w G.K mg base G 26 8 (fun ds => r_lam14_26 (startD 1 ds)) := lamE (L := LL) (k := 7) (n := 26) (q := (LL 26).q) (x := "_law_one") (params := (LL 26).ps) (body := (LL 26).body) (sc := (LL 26).sc) (N := ["_law_one"]) (R' := r_lam14_26) T.exs rfl sl_26 (fun s u pm c' ctv => .of_eq rfl) (fun f c' A outer s H E hr =>
    (show URe G (cxOf (CX1 P w) P w G.K mg base ["_law_one"] (LL 26).q (LL 26).sc f (.ref c') A outer s H E) E (LL 26).body r_lam14_26 from (ure_call pass1 (er_told T) hr (by decide) (ua_cons (u_var (i := 0)) (ua_cons u_non (ua_cons u_non (ua_cons u_non ua_nil)))) (hl_cons (hl_cons (hl_cons (hl_cons hl_nil))))))) (fun ds => rfl)
theorem sl_27 : FnScope ["_law_two"] ["_law_two"] (LL 27).sc := ⟨rfl, rfl, rfl, by decide +kernel, rfl, by decide +kernel, by decide +kernel⟩
theorem le_27 {P : Program} {w : World} {G : GG} {mg : Str → Option Value} {base : Heap} (T : TX G base mg) : LamE P w G.K mg base G 27 8 (fun ds => r_lam14_27 (startD 1 ds)) := lamE (L := LL) (k := 7) (n := 27) (q := (LL 27).q) (x := "_law_two") (params := (LL 27).ps) (body := (LL 27).body) (sc := (LL 27).sc) (N := ["_law_two"]) (R' := r_lam14_27) T.exs rfl sl_27 (fun s u pm c' ctv => .of_eq rfl) (fun f c' A outer s H E hr =>
    (show URe G (cxOf (CX1 P w) P w G.K mg base ["_law_two"] (LL 27).q (LL 27).sc f (.ref c') A outer s H E) E (LL 27).body r_lam14_27 from (ure_call pass1 (er_nearest T) hr (by decide) (ua_cons (u_var (i := 0)) (ua_cons u_non (ua_cons u_non ua_nil))) (hl_cons (hl_cons (hl_cons hl_nil)))))) (fun ds => rfl)
theorem sl_28 : FnScope ["_law_it"] ["_law_it"] (LL 28).sc := ⟨rfl, rfl, rfl, by decide +kernel, rfl, by decide +kernel, by decide +kernel⟩
theorem le_28 {P : Program} {w : World} {G : GG} {mg : Str → Option Value} {base : Heap} (T : TX G base mg) : LamE P w G.K mg base G 28 7 (fun ds => r_lam14_28 (startD 1 ds)) := lamE (L := LL) (k := 6) (n := 28) (q := (LL 28).q) (x := "_law_it") (params := (LL 28).ps) (body := (LL 28).body) (sc := (LL 28).sc) (N := ["_law_it"]) (R' := r_lam14_28) T.exs rfl sl_28 (fun s u pm c' ctv => .of_eq rfl) (fun f c' A outer s H E hr =>
    (show URe G (cxOf (CX1 P w) P w G.K mg base ["_law_it"] (LL 28).q (LL 28).sc f (.ref c') A outer s H E) E (LL 28).body r_lam14_28 from (ure_call pass1 (er_far T) hr (by decide) (ua_cons (u_var (i := 0)) (ua_cons u_non ua_nil)) (hl_cons (hl_cons hl_nil))))) (fun ds => rfl)
theorem sl_29 : FnScope ["_law_one"] ["_law_one"] (LL 29).sc := ⟨rfl, rfl, rfl, by decide +kernel, rfl, by decide +kernel, by decide +kernel⟩
theorem le_29 {P : Program} {w : World} {G : GG} {mg : Str → Option Value} {base : Heap} (T : TX G base mg) : LamE P w G.K mg base G 29 8 (fun ds => r_lam14_29 (startD 1 ds)) := lamE (L := LL) (k := 7) (n := 29) (q := (LL 29).q) (x := "_law_one") (params := (LL 29).ps) (body := (LL 29).body) (sc := (LL 29).sc) (N := ["_law_one"]) (R' := r_lam14_29) T.exs rfl sl_29 (fun s u pm c' ctv => .of_eq rfl) (fun f c' A outer s H E hr =>
    (show URe G (cxOf (CX1 P w) P w G.K mg base ["_law_one"] (LL 29).q (LL 29).sc f (.ref c') A outer s H E) E (LL 29).body r_lam14_29 from (ure_call pass1 (er_how_many T) hr (by decide) (ua_cons (u_var (i := 0)) (ua_cons u_non (ua_cons u_non (ua_cons u_non (ua_cons u_non ua_nil))))) (hl_cons (hl_cons (hl_cons (hl_cons (hl_cons hl_nil)))))))) (fun ds => rfl)
theorem sl_30 : FnScope ["_law_two"] ["_law_two"] (LL 30).sc := ⟨rfl, rfl, rfl, by decide +kernel, rfl, by decide +kernel, by decide +kernel⟩
theorem le_30 {P : Program} {w : World} {G : GG} {mg : Str → Option Value} {base : Heap} (T : TX G base mg) : LamE P w G.K mg base G 30 8 (fun ds => r_lam14_30 (startD 1 ds)) := lamE (L := LL) (k := 7) (n := 30) (q := (LL 30).q) (x := "_law_two") (params := (LL 30).ps) (body := (LL 30).body) (sc := (LL 30).sc) (N := ["_law_two"]) (R' := r_lam14_30) T.exs rfl sl_30 (fun s u pm c' ctv => .of_eq rfl) (fun f c' A outer s H E hr =>
    (show URe G (cxOf (CX1 P w) P w G.K mg base ["_law_two"] (LL 30).q (LL 30).sc f (.ref c') A outer s H E) E (LL 30).body r_lam14_30 from (ure_call pass1 (er_way_by T) hr (by decide) (ua_cons (u_var (i := 0)) (ua_cons u_int (ua_cons u_int (ua_cons u_int (ua_cons u_int (ua_cons u_int ua_nil)))))) (hl_cons (hl_cons (hl_cons (hl_cons (hl_cons (hl_cons hl_nil))))))))) (fun ds => rfl)
theorem sl_31 : FnScope ["_law_one"] ["_law_one"] (LL 31).sc := ⟨rfl, rfl, rfl, by decide +kernel, rfl, by decide +kernel, by decide +kernel⟩
theorem le_31 {P : Program} {w : World} {G : GG} {mg : Str → Option Value} {base : Heap} (T : TX G base mg) : LamE P w G.K mg base G 31 7 (fun ds => r_lam14_31 (startD 1 ds)) := lamE (L := LL) (k := 6) (n := 31) (q := (LL 31).q) (x := "_law_one") (params := (LL 31).ps) (body := (LL 31).body) (sc := (LL 31).sc) (N := ["_law_one"]) (R' := r_lam14_31) T.exs rfl sl_31 (fun s u pm c' ctv => .of_eq rfl) (fun f c' A outer s H E hr =>
    (show URe G (cxOf (CX1 P w) P w G.K mg base ["_law_one"] (LL 31).q (LL 31).sc f (.ref c') A outer s H E) E (LL 31).body r_lam14_31 from (ure_call pass1 (er_number_of T) hr (by decide) (ua_cons (u_var (i := 0)) (ua_cons u_non (ua_cons u_non ua_nil))) (hl_cons (hl_cons (hl_cons hl_nil)))))) (fun ds => rfl)
theorem sl_32 : FnScope ["_law_two"] ["_law_two"] (LL 32).sc := ⟨rfl, rfl, rfl, by decide +kernel, rfl, by decide +kernel, by decide +kernel⟩
theorem le_32 {P : Program} {w : World} {G : GG} {mg : Str → Option Value} {base : Heap} (T : TX G base mg) : LamE P w G.K mg base G 32 8 (fun ds => r_lam14_32 (startD 1 ds)) := lamE (L := LL) (k := 7) (n := 32) (q := (LL 32).q) (x := "_law_two") (params := (LL 32).ps) (body := (LL 32).body) (sc := (LL 32).sc) (N := ["_law_two"]) (R' := r_lam14_32) T.exs rfl sl_32 (fun s u pm c' ctv => .of_eq rfl) (fun f c' A outer s H E hr =>
    (show URe G (cxOf (CX1 P w) P w G.K mg base ["_law_two"] (LL 32).q (LL 32).sc f (.ref c') A outer s H E) E (LL 32).body r_lam14_32 from (ure_call pass1 (er_after T) hr (by decide) (ua_cons (u_var (i := 0)) (ua_cons u_non (ua_cons u_non (ua_cons u_non ua_nil)))) (hl_cons (hl_cons (hl_cons (hl_cons hl_nil))))))) (fun ds => rfl)
theorem sl_33 : FnScope ["_law_one"] ["_law_one"] (LL 33).sc := ⟨rfl, rfl, rfl, by decide +kernel, rfl, by decide +kernel, by decide +kernel⟩
theorem le_33 {P : Program} {w : World} {G : GG} {mg : Str → Option Value} {base : Heap} (T : TX G base mg) : LamE P w G.K mg base G 33 7 (fun ds => r_lam14_33 (startD 1 ds)) := lamE (L := LL) (k := 6) (n := 33) (q := (LL 33).q) (x := "_law_one") (params := (LL 33).ps) (body := (LL 33).body) (sc := (LL 33).sc) (N := ["_law_one"]) (R' := r_lam14_33) T.exs rfl sl_33 (fun s u pm c' ctv => .of_eq rfl) (fun f c' A outer s H E hr =>
    (show URe G (cxOf (CX1 P w) P w G.K mg base ["_law_one"] (LL 33).q (LL 33).sc f (.ref c') A outer s H E) E (LL 33).body r_lam14_33 from (ure_call pass1 (er_every T) hr (by decide) (ua_cons (u_var (i := 0)) (ua_cons u_non ua_nil)) (hl_cons (hl_cons hl_nil))))) (fun ds => rfl)
theorem sl_34 : FnScope ["_law_two"] ["_law_two"] (LL 34).sc := ⟨rfl, rfl, rfl, by decide +kernel, rfl, by decide +kernel, by decide +kernel⟩
theorem le_34 {P : Program} {w : World} {G : GG} {mg : Str → Option Value} {base : Heap} (T : TX G base mg) : LamE P w G.K mg base G 34 7 (fun ds => r_lam14_34 (startD 1 ds)) := lamE (L := LL) (k := 6) (n := 34) (q := (LL 34).q) (x := "_law_two") (params := (LL 34).ps) (body := (LL 34).body) (sc := (LL 34).sc) (N := ["_law_two"]) (R' := r_lam14_34) T.exs rfl sl_34 (fun s u pm c' ctv => .of_eq rfl) (fun f c' A outer s H E hr =>
    (show URe G (cxOf (CX1 P w) P w G.K mg base ["_law_two"] (LL 34).q (LL 34).sc f (.ref c') A outer s H E) E (LL 34).body r_lam14_34 from (ure_call pass1 (er_added T) hr (by decide) (ua_cons (u_var (i := 0)) (ua_cons u_non ua_nil)) (hl_cons (hl_cons hl_nil))))) (fun ds => rfl)
theorem sl_35 : FnScope ["_law_it"] ["_law_it"] (LL 35).sc := ⟨rfl, rfl, rfl, by decide +kernel, rfl, by decide +kernel, by decide +kernel⟩
theorem le_35 {P : Program} {w : World} {G : GG} {mg : Str → Option Value} {base : Heap} (T : TX G base mg) : LamE P w G.K mg base G 35 9 (fun ds => r_lam14_35 (startD 1 ds)) := lamE (L := LL) (k := 8) (n := 35) (q := (LL 35).q) (x := "_law_it") (params := (LL 35).ps) (body := (LL 35).body) (sc := (LL 35).sc) (N := ["_law_it"]) (R' := r_lam14_35) T.exs rfl sl_35 (fun s u pm c' ctv => .of_eq rfl) (fun f c' A outer s H E hr =>
    (show URe G (cxOf (CX1 P w) P w G.K mg base ["_law_it"] (LL 35).q (LL 35).sc f (.ref c') A outer s H E) E (LL 35).body r_lam14_35 from (ure_call pass1 (er_twos T) hr (by decide) (ua_cons (u_var (i := 0)) (ua_cons u_non ua_nil)) (hl_cons (hl_cons hl_nil))))) (fun ds => rfl)
theorem sl_36 : FnScope ["_law_one"] ["_law_one"] (LL 36).sc := ⟨rfl, rfl, rfl, by decide +kernel, rfl, by decide +kernel, by decide +kernel⟩
theorem le_36 {P : Program} {w : World} {G : GG} {mg : Str → Option Value} {base : Heap} (T : TX G base mg) : LamE P w G.K mg base G 36 5 (fun ds => r_lam14_36 (startD 1 ds)) := lamE (L := LL) (k := 4) (n := 36) (q := (LL 36).q) (x := "_law_one") (params := (LL 36).ps) (body := (LL 36).body) (sc := (LL 36).sc) (N := ["_law_one"]) (R' := r_lam14_36) T.exs rfl sl_36 (fun s u pm c' ctv => .of_eq rfl) (fun f c' A outer s H E hr =>
    (show URe G (cxOf (CX1 P w) P w G.K mg base ["_law_one"] (LL 36).q (LL 36).sc f (.ref c') A outer s H E) E (LL 36).body r_lam14_36 from (ure_call pass1 (er_told_back T) hr (by decide) (ua_cons (u_var (i := 0)) (ua_cons u_non ua_nil)) (hl_cons (hl_cons hl_nil))))) (fun ds => rfl)
theorem sl_37 : FnScope ["_law_two"] ["_law_two"] (LL 37).sc := ⟨rfl, rfl, rfl, by decide +kernel, rfl, by decide +kernel, by decide +kernel⟩
theorem le_37 {P : Program} {w : World} {G : GG} {mg : Str → Option Value} {base : Heap} (T : TX G base mg) : LamE P w G.K mg base G 37 8 (fun ds => r_lam14_37 (startD 1 ds)) := lamE (L := LL) (k := 7) (n := 37) (q := (LL 37).q) (x := "_law_two") (params := (LL 37).ps) (body := (LL 37).body) (sc := (LL 37).sc) (N := ["_law_two"]) (R' := r_lam14_37) T.exs rfl sl_37 (fun s u pm c' ctv => .of_eq rfl) (fun f c' A outer s H E hr =>
    (show URe G (cxOf (CX1 P w) P w G.K mg base ["_law_two"] (LL 37).q (LL 37).sc f (.ref c') A outer s H E) E (LL 37).body r_lam14_37 from (ure_call pass1 (er_judged T) hr (by decide) (ua_cons (u_var (i := 0)) (ua_cons u_non (ua_cons u_non (ua_cons u_non ua_nil)))) (hl_cons (hl_cons (hl_cons (hl_cons hl_nil))))))) (fun ds => rfl)
theorem sl_38 : FnScope ["_law_one"] ["_law_one"] (LL 38).sc := ⟨rfl, rfl, rfl, by decide +kernel, rfl, by decide +kernel, by decide +kernel⟩
theorem le_38 {P : Program} {w : World} {G : GG} {mg : Str → Option Value} {base : Heap} (T : TX G base mg) : LamE P w G.K mg base G 38 9 (fun ds => r_lam14_38 (startD 1 ds)) := lamE (L := LL) (k := 8) (n := 38) (q := (LL 38).q) (x := "_law_one") (params := (LL 38).ps) (body := (LL 38).body) (sc := (LL 38).sc) (N := ["_law_one"]) (R' := r_lam14_38) T.exs rfl sl_38 (fun s u pm c' ctv => .of_eq rfl) (fun f c' A outer s H E hr =>
    (show URe G (cxOf (CX1 P w) P w G.K mg base ["_law_one"] (LL 38).q (LL 38).sc f (.ref c') A outer s H E) E (LL 38).body r_lam14_38 from (ure_make pass1 (er_Walker T) hr (by decide) (ua_cons (u_var (i := 0)) (ua_cons u_non (ua_cons u_non ua_nil))) (hl_cons (hl_cons (hl_cons hl_nil)))))) (fun ds => rfl)
theorem sl_39 : FnScope ["_law_one"] ["_law_one"] (LL 39).sc := ⟨rfl, rfl, rfl, by decide +kernel, rfl, by decide +kernel, by decide +kernel⟩
theorem le_39 {P : Program} {w : World} {G : GG} {mg : Str → Option Value} {base : Heap} (T : TX G base mg) : LamE P w G.K mg base G 39 5 (fun ds => r_lam14_39 (startD 1 ds)) := lamE (L := LL) (k := 4) (n := 39) (q := (LL 39).q) (x := "_law_one") (params := (LL 39).ps) (body := (LL 39).body) (sc := (LL 39).sc) (N := ["_law_one"]) (R' := r_lam14_39) T.exs rfl sl_39 (fun s u pm c' ctv => .of_eq rfl) (fun f c' A outer s H E hr =>
    (show URe G (cxOf (CX1 P w) P w G.K mg base ["_law_one"] (LL 39).q (LL 39).sc f (.ref c') A outer s H E) E (LL 39).body r_lam14_39 from (ure_call pass1 (er_told_back T) hr (by decide) (ua_cons (u_var (i := 0)) (ua_cons u_non ua_nil)) (hl_cons (hl_cons hl_nil))))) (fun ds => rfl)
theorem le_all {P : Program} {w : World} {G : GG} {mg : Str → Option Value} {base : Heap} (T : TX G base mg) : ∀ n, LamE P w G.K mg base G n 9 (RL_14 n)
  | 0 => lamE_mono (le_0 T) (by decide)
  | 1 => lamE_mono (le_1 T) (by decide)
  | 2 => lamE_mono (le_2 T) (by decide)
  | 3 => lamE_mono (le_3 T) (by decide)
  | 4 => lamE_mono (le_4 T) (by decide)
  | 5 => lamE_mono (le_5 T) (by decide)
  | 6 => lamE_mono (le_6 T) (by decide)
  | 7 => lamE_mono (le_7 T) (by decide)
  | 8 => lamE_mono (le_8 T) (by decide)
  | 9 => lamE_mono (le_9 T) (by decide)
  | 10 => lamE_mono (le_10 T) (by decide)
  | 11 => lamE_mono (le_11 T) (by decide)
  | 12 => lamE_mono (le_12 T) (by decide)
  | 13 => lamE_mono (le_13 T) (by decide)
  | 14 => lamE_mono (le_14 T) (by decide)
  | 15 => lamE_mono (le_15 T) (by decide)
  | 16 => lamE_mono (le_16 T) (by decide)
  | 17 => lamE_mono (le_17 T) (by decide)
  | 18 => lamE_mono (le_18 T) (by decide)
  | 19 => lamE_mono (le_19 T) (by decide)
  | 20 => lamE_mono (le_20 T) (by decide)
  | 21 => lamE_mono (le_21 T) (by decide)
  | 22 => lamE_mono (le_22 T) (by decide)
  | 23 => lamE_mono (le_23 T) (by decide)
  | 24 => lamE_mono (le_24 T) (by decide)
  | 25 => lamE_mono (le_25 T) (by decide)
  | 26 => lamE_mono (le_26 T) (by decide)
  | 27 => lamE_mono (le_27 T) (by decide)
  | 28 => lamE_mono (le_28 T) (by decide)
  | 29 => lamE_mono (le_29 T) (by decide)
  | 30 => lamE_mono (le_30 T) (by decide)
  | 31 => lamE_mono (le_31 T) (by decide)
  | 32 => lamE_mono (le_32 T) (by decide)
  | 33 => lamE_mono (le_33 T) (by decide)
  | 34 => lamE_mono (le_34 T) (by decide)
  | 35 => lamE_mono (le_35 T) (by decide)
  | 36 => lamE_mono (le_36 T) (by decide)
  | 37 => lamE_mono (le_37 T) (by decide)
  | 38 => lamE_mono (le_38 T) (by decide)
  | 39 => lamE_mono (le_39 T) (by decide)
  | _ + 40 => lamE_none T.exs
theorem ok__law_refused {P : Program} {w : World} {G : GG} {mg : Str → Option Value} {base : Heap} (T : TX G base mg) : Fn1 P w G.K mg base G "_law_refused" 10 3 F__law_refused := by
  unfold F__law_refused
  exact fn1 (k := 9) (fuel := 0) (N := ["_law_ask", "_law_thing", "_law_which", "_law_sorts", "_law_error", "_law_at"]) (comb := c__law_refused) T.d__law_refused sc__law_refused rfl fun f cdv A outer s H E hr =>
    (show USs G (cxOf CX0 P w G.K mg base ["_law_ask", "_law_thing", "_law_which", "_law_sorts", "_law_error", "_law_at"] "_law_refused" (defScope s__law_refused) f cdv A outer s H E).nox (defBody s__law_refused) c__law_refused from (us_cons (us_setL (i := 3) (ul_lst ua_nil) sc__law_refused.nd) (us_cons (us_tryF (ia := 0) (it := 1) (is := 3) (ie := 4) ⟨rfl, rfl, fun _ => rfl, rfl⟩ (fun _ _ h => h) (le_all T) hr (by decide) (kds T) sc__law_refused.nd) (us_one (us_ret (u_eq hr (u_var (i := 3)) (u_l (ul_cat (u_l (ul_lc (own := [("_law_at", 5)]) (ui_range1 (ua_cons u_int ua_nil) T.z_range) (.one 5) (blk_of (by kernel_rfl)) (fun _ _ _ _ _ => pg_name (i := 5) sc__law_refused.nd rfl (by first | exact Or.inl rfl | exact Or.inr rfl)) (fun _ _ _ _ _ => uts_nil) (fun _ _ _ _ _ => (u_eq hr (u_var (i := 5)) (u_var (i := 2)))) sc__law_refused.nd)) (u_l (ul_lst (ua_cons u_bl ua_nil)))))))))))
theorem ok__law_all {P : Program} {w : World} {G : GG} {mg : Str → Option Value} {base : Heap} (T : TX G base mg) : Fn1 P w G.K mg base G "_law_all" 11 3 F__law_all_k14 := by
  unfold F__law_all_k14
  exact fn1 (k := 10) (fuel := 0) (N := ["_law_asks", "_law_things", "_law_which", "_law_ask", "_law_thing"]) (comb := c__law_all_k14) T.d__law_all sc__law_all rfl fun f cdv A outer s H E hr =>
    (show USs G (cxOf CX0 P w G.K mg base ["_law_asks", "_law_things", "_law_which", "_law_ask", "_law_thing"] "_law_all" (defScope s__law_all) f cdv A outer s H E).nox (defBody s__law_all) c__law_all_k14 from (us_cons (us_for (ui_list (u_var (i := 0))) (ug_name (i := 3) sc__law_all.nd) (us_one (us_if (ut_not (ut_val (u_all (ua_cons (u_l (ul_lc (own := [("_law_thing", 4)]) (ui_list (u_var (i := 1))) (.one 4) (blk_of (by kernel_rfl)) (fun _ _ _ _ _ => pg_name (i := 4) sc__law_all.nd rfl (by first | exact Or.inl rfl | exact Or.inr rfl)) (fun _ _ _ _ _ => uts_nil) (fun _ _ _ _ _ => (u_fc (ok__law_refused T) hr (by decide) (ua_cons (u_var (i := 3)) (ua_cons (u_var (i := 4)) (ua_cons (u_var (i := 2)) ua_nil))) (hl_cons (hl_cons (hl_cons hl_nil))))) sc__law_all.nd)) ua_nil) T.z_all))) (us_one (us_ret u_bl)) us_nil))) (us_one (us_ret u_bl))))
theorem ok__law_strange {P : Program} {w : World} {G : GG} {mg : Str → Option Value} {base : Heap} (T : TX G base mg) : Fn1 P w G.K mg base G "_law_strange" 1 1 F__law_strange := by
  unfold F__law_strange
  exact fn1 (k := 0) (fuel := 0) (N := ["_law_great"]) (comb := c__law_strange) T.d__law_strange sc__law_strange rfl fun f cdv A outer s H E hr =>
    (show USs G (cxOf CX0 P w G.K mg base ["_law_great"] "_law_strange" (defScope s__law_strange) f cdv A outer s H E).nox (defBody s__law_strange) c__law_strange from (us_one (us_retL (ul_lst (ua_cons u_non (ua_cons u_str (ua_cons u_bl (ua_cons u_bl (ua_cons (u_l (ul_lst (ua_cons u_int ua_nil))) (ua_cons (u_tup (ua_cons u_int ua_nil)) (ua_cons u_dnew (ua_cons (u_neg u_int) (ua_cons (u_sub (u_neg u_int) (u_var (i := 0))) (ua_cons (u_neg (u_pow2 (u_pow2 (u_pow u_int u_int) u_int) u_int)) ua_nil))))))))))))))
theorem ok__law_no_steps {P : Program} {w : World} {G : GG} {mg : Str → Option Value} {base : Heap} (T : TX G base mg) : Fn1 P w G.K mg base G "_law_no_steps" 2 1 F__law_no_steps := by
  unfold F__law_no_steps
  exact fn1 (k := 1) (fuel := 0) (N := ["_law_great", "_law_found", "_law_one", "_law_spot"]) (comb := c__law_no_steps) T.d__law_no_steps sc__law_no_steps rfl fun f cdv A outer s H E hr =>
    (show USs G (cxOf CX0 P w G.K mg base ["_law_great", "_law_found", "_law_one", "_law_spot"] "_law_no_steps" (defScope s__law_no_steps) f cdv A outer s H E).nox (defBody s__law_no_steps) c__law_no_steps from (us_cons (us_setL (i := 1) (ul_lst (ua_cons u_non (ua_cons u_int (ua_cons u_str (ua_cons (u_tup (ua_cons u_int (ua_cons u_int ua_nil))) (ua_cons u_dnew (ua_cons (u_l (ul_lst ua_nil)) (ua_cons (u_l (ul_lst (ua_cons u_int (ua_cons u_int (ua_cons u_int (ua_cons u_int (ua_cons u_int (ua_cons u_int (ua_cons u_int ua_nil))))))))) (ua_cons (u_l (ul_lst (ua_cons u_int ua_nil))) (ua_cons (u_l (ul_lst (ua_cons u_int ua_nil))) (ua_cons (u_l (ul_lst (ua_cons (u_add u_int (u_var (i := 0))) ua_nil))) (ua_cons (u_l (ul_lst (ua_cons u_int (ua_cons u_int ua_nil)))) (ua_cons (u_l (ul_lst (ua_cons u_int (ua_cons u_int ua_nil)))) (ua_cons (u_l (ul_lst (ua_cons u_int (ua_cons u_int (ua_cons u_int ua_nil))))) ua_nil)))))))))))))) sc__law_no_steps.nd) (us_cons (us_for (ui_list (u_l (ul_cat (u_l (ul_fc (ok__law_strange T) hr (by decide) (ua_cons (u_var (i := 0)) ua_nil) (hl_cons hl_nil))) (u_l (ul_lst (ua_cons u_int (ua_cons u_int (ua_cons u_non ua_nil)))))))) (ug_name (i := 2) sc__law_no_steps.nd) (us_cons (us_set (i := 3) (u_mod (u_var (i := 0)) u_int) sc__law_no_steps.nd) (us_one (us_setL (i := 1) (ul_cat (u_var (i := 1)) (u_l (ul_lst (ua_cons (u_l (ul_lst (ua_cons (u_var (i := 2)) ua_nil))) (ua_cons (u_l (ul_lst (ua_cons u_int (ua_cons (u_var (i := 2)) ua_nil)))) (ua_cons (u_l (ul_cat (u_l (ul_cat (u_l (ul_slice (u_l (ul_lst (ua_cons u_int (ua_cons u_int (ua_cons u_int (ua_cons u_int (ua_cons u_int (ua_cons u_int ua_nil)))))))) uo_none (uo_some (u_var (i := 3))))) (u_l (ul_lst (ua_cons (u_var (i := 2)) ua_nil))))) (u_l (ul_slice (u_l (ul_lst (ua_cons u_int (ua_cons u_int (ua_cons u_int (ua_cons u_int (ua_cons u_int (ua_cons u_int ua_nil)))))))) (uo_some (u_add (u_var (i := 3)) u_int)) uo_none)))) ua_nil)))))) sc__law_no_steps.nd)))) (us_cons (us_setL (i := 1) (ul_cat (u_var (i := 1)) (u_l (ul_lst (ua_cons (u_l (ul_lst (ua_cons u_int (ua_cons u_int (ua_cons u_int ua_nil))))) (ua_cons (u_l (ul_lst (ua_cons u_int (ua_cons u_int (ua_cons u_int ua_nil))))) (ua_cons (u_l (ul_lst (ua_cons u_int (ua_cons u_int (ua_cons u_int (ua_cons u_int (ua_cons u_int (ua_cons u_int ua_nil)))))))) ua_nil)))))) sc__law_no_steps.nd) (us_one (us_retL (ul_cat (u_var (i := 1)) (u_l (ul_lst (ua_cons (u_l (ul_lst (ua_cons u_int (ua_cons u_int (ua_cons u_int (ua_cons u_int (ua_cons u_int (ua_cons u_int ua_nil)))))))) (ua_cons (u_l (ul_lst (ua_cons u_int (ua_cons u_int (ua_cons u_int (ua_cons u_int (ua_cons u_int (ua_cons u_int ua_nil)))))))) (ua_cons (u_l (ul_lst (ua_cons u_int (ua_cons u_int (ua_cons u_int (ua_cons u_int (ua_cons u_int (ua_cons u_int ua_nil)))))))) ua_nil))))))))))))
theorem ok__law_steps_right {P : Program} {w : World} {G : GG} {mg : Str → Option Value} {base : Heap} (T : TX G base mg) : Fn1 P w G.K mg base G "_law_steps_right" 12 1 F__law_steps_right := by
  unfold F__law_steps_right
  exact fn1l (T.lam _ (by decide)) (k := 11) (fuel := 0) (N := ["_law_great", "_law_asks"]) (comb := c__law_steps_right) T.d__law_steps_right sc__law_steps_right rfl fun f cdv A outer s H E hr hL =>
    (show USs G (cxOf CX0 P w G.K mg base ["_law_great", "_law_asks"] "_law_steps_right" (defScope s__law_steps_right) f cdv A outer s H E).nox (defBody s__law_steps_right) c__law_steps_right from (us_cons (us_setL (i := 1) (ul_lst (ua_cons (u_lam hL T.exs (L := LL) (n := 0) (by kernel_rfl)) (ua_cons (u_lam hL T.exs (L := LL) (n := 1) (by kernel_rfl)) (ua_cons (u_lam hL T.exs (L := LL) (n := 2) (by kernel_rfl)) ua_nil)))) sc__law_steps_right.nd) (us_cons (us_setL (i := 1) (ul_cat (u_var (i := 1)) (u_l (ul_lst (ua_cons (u_lam hL T.exs (L := LL) (n := 3) (by kernel_rfl)) (ua_cons (u_lam hL T.exs (L := LL) (n := 4) (by kernel_rfl)) ua_nil))))) sc__law_steps_right.nd) (us_cons (us_setL (i := 1) (ul_cat (u_var (i := 1)) (u_l (ul_lst (ua_cons (u_lam hL T.exs (L := LL) (n := 5) (by kernel_rfl)) (ua_cons (u_lam hL T.exs (L := LL) (n := 6) (by kernel_rfl)) ua_nil))))) sc__law_steps_right.nd) (us_cons (us_setL (i := 1) (ul_cat (u_var (i := 1)) (u_l (ul_lst (ua_cons (u_lam hL T.exs (L := LL) (n := 7) (by kernel_rfl)) (ua_cons (u_lam hL T.exs (L := LL) (n := 8) (by kernel_rfl)) (ua_cons (u_lam hL T.exs (L := LL) (n := 9) (by kernel_rfl)) ua_nil)))))) sc__law_steps_right.nd) (us_cons (us_setL (i := 1) (ul_cat (u_var (i := 1)) (u_l (ul_lst (ua_cons (u_lam hL T.exs (L := LL) (n := 10) (by kernel_rfl)) (ua_cons (u_lam hL T.exs (L := LL) (n := 11) (by kernel_rfl)) ua_nil))))) sc__law_steps_right.nd) (us_cons (us_if (ut_not (ut_val (u_fc (ok__law_all T) hr (by decide) (ua_cons (u_l (ul_lst (ua_cons (u_lam hL T.exs (L := LL) (n := 12) (by kernel_rfl)) ua_nil))) (ua_cons (u_l (ul_lst (ua_cons (u_l (ul_lst (ua_cons u_int (ua_cons u_int (ua_cons u_int (ua_cons u_int (ua_cons u_int (ua_cons u_int ua_nil)))))))) ua_nil))) (ua_cons u_int ua_nil))) (hl_cons (hl_cons (hl_cons hl_nil)))))) (us_one (us_ret u_bl)) us_nil) (us_cons (us_if (ut_not (ut_val (u_fc (ok__law_all T) hr (by decide) (ua_cons (u_var (i := 1)) (ua_cons (u_l (ul_fc (ok__law_no_steps T) hr (by decide) (ua_cons (u_var (i := 0)) ua_nil) (hl_cons hl_nil))) (ua_cons u_int ua_nil))) (hl_cons (hl_cons (hl_cons hl_nil)))))) (us_one (us_ret u_bl)) us_nil) (us_one (us_ret u_bl))))))))))
theorem ok__law_places_right {P : Program} {w : World} {G : GG} {mg : Str → Option Value} {base : Heap} (T : TX G base mg) : Fn1 P w G.K mg base G "_law_places_right" 12 1 F__law_places_right := by
  unfold F__law_places_right
  exact fn1l (T.lam _ (by decide)) (k := 11) (fuel := 0) (N := ["_law_great", "_law_asks"]) (comb := c__law_places_right) T.d__law_places_right sc__law_places_right rfl fun f cdv A outer s H E hr hL =>
    (show USs G (cxOf CX0 P w G.K mg base ["_law_great", "_law_asks"] "_law_places_right" (defScope s__law_places_right) f cdv A outer s H E).nox (defBody s__law_places_right) c__law_places_right from (us_cons (us_setL (i := 1) (ul_lst (ua_cons (u_lam hL T.exs (L := LL) (n := 13) (by kernel_rfl)) (ua_cons (u_lam hL T.exs (L := LL) (n := 14) (by kernel_rfl)) (ua_cons (u_lam hL T.exs (L := LL) (n := 15) (by kernel_rfl)) ua_nil)))) sc__law_places_right.nd) (us_cons (us_setL (i := 1) (ul_cat (u_var (i := 1)) (u_l (ul_lst (ua_cons (u_lam hL T.exs (L := LL) (n := 16) (by kernel_rfl)) (ua_cons (u_lam hL T.exs (L := LL) (n := 17) (by kernel_rfl)) ua_nil))))) sc__law_places_right.nd) (us_cons (us_setL (i := 1) (ul_cat (u_var (i := 1)) (u_l (ul_lst (ua_cons (u_lam hL T.exs (L := LL) (n := 18) (by kernel_rfl)) (ua_cons (u_lam hL T.exs (L := LL) (n := 19) (by kernel_rfl)) ua_nil))))) sc__law_places_right.nd) (us_cons (us_setL (i := 1) (ul_cat (u_var (i := 1)) (u_l (ul_lst (ua_cons (u_lam hL T.exs (L := LL) (n := 20) (by kernel_rfl)) (ua_cons (u_lam hL T.exs (L := LL) (n := 21) (by kernel_rfl)) ua_nil))))) sc__law_places_right.nd) (us_cons (us_app (i := 1) (u_lam hL T.exs (L := LL) (n := 22) (by kernel_rfl))) (us_cons (us_setL (i := 1) (ul_cat (u_var (i := 1)) (u_l (ul_lst (ua_cons (u_lam hL T.exs (L := LL) (n := 23) (by kernel_rfl)) (ua_cons (u_lam hL T.exs (L := LL) (n := 24) (by kernel_rfl)) ua_nil))))) sc__law_places_right.nd) (us_cons (us_app (i := 1) (u_lam hL T.exs (L := LL) (n := 25) (by kernel_rfl))) (us_cons (us_if (ut_not (ut_val (u_fc (ok__law_all T) hr (by decide) (ua_cons (u_var (i := 1)) (ua_cons (u_l (ul_cat (u_l (ul_fc (ok__law_strange T) hr (by decide) (ua_cons (u_var (i := 0)) ua_nil) (hl_cons hl_nil))) (u_l (ul_lst (ua_cons u_int (ua_cons (u_add u_int (u_var (i := 0))) ua_nil)))))) (ua_cons u_int ua_nil))) (hl_cons (hl_cons (hl_cons hl_nil)))))) (us_one (us_ret u_bl)) us_nil) (us_one (us_ret u_bl)))))))))))
theorem bd_law {P : Program} {w : World} {G : GG} {mg : Str → Option Value} {base : Heap} (T : TX G base mg) (f : Addr) (cdv : Value) (A : Around) (outer : List Env) (s : Shared) (H : Hp) (E : XK) (hr : Room 12 (A.deeper (PyProof.Rows.envOfC "law" (defScope s_law) s.heap.objs.size f cdv))) (hL : LamCx G (cxOf CX0 P w G.K mg base ["_law_script", "_law_cell", "_law_great", "_law_asks"] "law" (defScope s_law) f cdv A outer s H E).nox (lamQ "law")) :
    USs G (cxOf CX0 P w G.K mg base ["_law_script", "_law_cell", "_law_great", "_law_asks"] "law" (defScope s_law) f cdv A outer s H E).nox (defBody s_law) c_law_k14 := (us_cons (us_for (ui_list (u_l (ul_cat (u_l (ul_lst (ua_cons u_int ua_nil))) (u_l (ul_sliceF (u_var (i := 0)) uo_none (uo_some u_int)))))) (ug_name (i := 1) sc_law.nd) (us_cons (us_set (i := 2) (u_mod (u_abs (ua_cons (u_var (i := 1)) ua_nil) T.z_abs) (u_pow u_int u_int)) sc_law.nd) (us_cons (us_setL (i := 3) (ul_lst (ua_cons (u_lam hL T.exs (L := LL) (n := 26) (by kernel_rfl)) (ua_cons (u_lam hL T.exs (L := LL) (n := 27) (by kernel_rfl)) (ua_cons (u_lam hL T.exs (L := LL) (n := 28) (by kernel_rfl)) ua_nil)))) sc_law.nd) (us_cons (us_setL (i := 3) (ul_cat (u_var (i := 3)) (u_l (ul_lst (ua_cons (u_lam hL T.exs (L := LL) (n := 29) (by kernel_rfl)) (ua_cons (u_lam hL T.exs (L := LL) (n := 30) (by kernel_rfl)) ua_nil))))) sc_law.nd) (us_cons (us_setL (i := 3) (ul_cat (u_var (i := 3)) (u_l (ul_lst (ua_cons (u_lam hL T.exs (L := LL) (n := 31) (by kernel_rfl)) (ua_cons (u_lam hL T.exs (L := LL) (n := 32) (by kernel_rfl)) ua_nil))))) sc_law.nd) (us_cons (us_setL (i := 3) (ul_cat (u_var (i := 3)) (u_l (ul_lst (ua_cons (u_lam hL T.exs (L := LL) (n := 33) (by kernel_rfl)) (ua_cons (u_lam hL T.exs (L := LL) (n := 34) (by kernel_rfl)) (ua_cons (u_lam hL T.exs (L := LL) (n := 35) (by kernel_rfl)) ua_nil)))))) sc_law.nd) (us_cons (us_setL (i := 3) (ul_cat (u_var (i := 3)) (u_l (ul_lst (ua_cons (u_lam hL T.exs (L := LL) (n := 36) (by kernel_rfl)) (ua_cons (u_lam hL T.exs (L := LL) (n := 37) (by kernel_rfl)) ua_nil))))) sc_law.nd) (us_cons (us_app (i := 3) (u_lam hL T.exs (L := LL) (n := 38) (by kernel_rfl))) (us_cons (us_if (ut_not (ut_val (u_fc (ok__law_all T) hr (by decide) (ua_cons (u_var (i := 3)) (ua_cons (u_l (ul_cat (u_l (ul_fc (ok__law_strange T) hr (by decide) (ua_cons (u_var (i := 2)) ua_nil) (hl_cons hl_nil))) (u_l (ul_lst (ua_cons u_int (ua_cons u_int (ua_cons (u_add u_int (u_var (i := 2))) ua_nil))))))) (ua_cons u_int ua_nil))) (hl_cons (hl_cons (hl_cons hl_nil)))))) (us_one (us_ret u_bl)) us_nil) (us_cons (us_if (ut_not (ut_val (u_fc (ok__law_all T) hr (by decide) (ua_cons (u_l (ul_lst (ua_cons (u_lam hL T.exs (L := LL) (n := 39) (by kernel_rfl)) ua_nil))) (ua_cons (u_l (ul_lst (ua_cons u_int (ua_cons u_int ua_nil)))) (ua_cons u_int ua_nil))) (hl_cons (hl_cons (hl_cons hl_nil)))))) (us_one (us_ret u_bl)) us_nil) (us_one (us_if (ut_w (uw_or (ut_not (ut_val (u_fc (ok__law_steps_right T) hr (by decide) (ua_cons (u_var (i := 2)) ua_nil) (hl_cons hl_nil)))) (uw_or1 (ut_not (ut_val (u_fc (ok__law_places_right T) hr (by decide) (ua_cons (u_var (i := 2)) ua_nil) (hl_cons hl_nil))))))) (us_one (us_ret u_bl)) us_nil)))))))))))) (us_cons (us_if (ut_ne hr (u_l (ul_lst (ua_cons (u_fc (ok_far T) hr (by decide) (ua_cons u_int (ua_cons (u_l (ul_lst (ua_cons u_int ua_nil))) ua_nil)) (hl_cons (hl_cons hl_nil))) (ua_cons (u_fc (ok_far T) hr (by decide) (ua_cons u_int (ua_cons (u_l (ul_lst (ua_cons u_int (ua_cons u_int (ua_cons u_int (ua_cons u_int (ua_cons u_int (ua_cons u_int ua_nil)))))))) ua_nil)) (hl_cons (hl_cons hl_nil))) (ua_cons (u_ix (u_l (ul_fc (ok_nearest T) hr (by decide) (ua_cons u_int (ua_cons (u_l (ul_lst (ua_cons u_int ua_nil))) (ua_cons u_int ua_nil))) (hl_cons (hl_cons (hl_cons hl_nil))))) u_int) ua_nil))))) (u_l (ul_lst (ua_cons u_non (ua_cons u_int (ua_cons u_int ua_nil)))))) (us_one (us_ret u_bl)) us_nil) (us_one (us_ret (u_and (u_eq hr (u_fld (fd_Come_way T) (u_fc (ok_told T) hr (by decide) (ua_cons u_int (ua_cons (u_l (ul_lst (ua_cons u_int ua_nil))) (ua_cons u_int (ua_cons u_int ua_nil)))) (hl_cons (hl_cons (hl_cons (hl_cons hl_nil)))))) (u_l (ul_lst (ua_cons u_int ua_nil)))) (u_one (u_eq hr (u_mkgo (ok_Walker_go T) hr (by decide) (un_make (mk_Walker T) hr (by decide) (ua_cons u_int (ua_cons (u_l (ul_lst (ua_cons u_int ua_nil))) (ua_cons u_int ua_nil))) (hl_cons (hl_cons (hl_cons hl_nil)))) (ua_cons u_int ua_nil) (hl_cons hl_nil)) u_int)))))))
structure TX0 (K : PySem.W.Frag) (mg : Str → Option Value) : Prop where
  d_is_number : Def1 K mg "is_number" s_is_number ["value"]
  d_is_within : Def1 K mg "is_within" s_is_within ["value", "least", "most"]
  d_is_ring : Def1 K mg "is_ring" s_is_ring ["value"]
  d_is_rising : Def1 K mg "is_rising" s_is_rising ["numbers"]
  d_are_steps : Def1 K mg "are_steps" s_are_steps ["value"]
  d_is_place : Def1 K mg "is_place" s_is_place ["ring", "value"]
  d_is_count : Def1 K mg "is_count" s_is_count ["steps", "value"]
  d_check_ring : Def1 K mg "check_ring" s_check_ring ["ring"]
  d_check_steps : Def1 K mg "check_steps" s_check_steps ["steps"]
  d_check_place : Def1 K mg "check_place" s_check_place ["ring", "place"]
  d_check_told : Def1 K mg "check_told" s_check_told ["ring", "steps", "places"]
  d_led_to : Def1 K mg "led_to" s_led_to ["ring", "place", "step"]
  d_common_part : Def1 K mg "common_part" s_common_part ["numbers"]
  d_copied : Def1 K mg "copied" s_copied ["value"]
  k_Come : KOk2 K mg (clsOf mg "Come") "Come" "Come.__init__" s_Come_init ["self", "way", "heights"] cFl
  k_Never : KOk K mg (clsOf mg "Never") "Never" "Never.__init__" s_Never_init ["part"]
  d_next_row : Def1 K mg "next_row" s_next_row ["ring", "steps", "near", "row"]
  d_fewest : Def1 K mg "fewest" s_fewest ["ring", "steps", "place"]
  d_last_count : Def1 K mg "last_count" s_last_count ["ring", "steps", "near", "place"]
  d_way_to : Def1 K mg "way_to" s_way_to ["ring", "steps", "near", "place"]
  d_heights_of : Def1 K mg "heights_of" s_heights_of ["near"]
  d_told : Def1 K mg "told" s_told ["ring", "steps", "one", "other"]
  d_nearest : Def1 K mg "nearest" s_nearest ["ring", "steps", "place"]
  d_far : Def1 K mg "far" s_far ["ring", "steps"]
  d_after : Def1 K mg "after" s_after ["ring", "steps", "place", "many"]
  d_every : Def1 K mg "every" s_every ["ring", "steps"]
  d_check_room : Def1 K mg "check_room" s_check_room ["steps"]
  d_check_small_ring : Def1 K mg "check_small_ring" s_check_small_ring ["ring"]
  d_added : Def1 K mg "added" s_added ["ring", "steps"]
  d_twos : Def1 K mg "twos" s_twos ["ring", "steps"]
  d_told_back : Def1 K mg "told_back" s_told_back ["ring", "places"]
  d_how_many : Def1 K mg "how_many" s_how_many ["ring", "steps", "one", "other", "many"]
  d_way_by : Def1 K mg "way_by" s_way_by ["ring", "steps", "one", "other", "many", "number"]
  d_number_of : Def1 K mg "number_of" s_number_of ["ring", "steps", "way"]
  d_judged : Def1 K mg "judged" s_judged ["ring", "steps", "place", "tale"]
  k_Walker : KOk2 K mg (clsOf mg "Walker") "Walker" "Walker.__init__" s_Walker_init ["self", "ring", "steps", "place"] wFl
  d_Walker_move : MOk K (clsOf mg "Walker") "move" "Walker.move" s_Walker_move ["self", "step"]
  d_Walker_go : MOk K (clsOf mg "Walker") "go" "Walker.go" s_Walker_go ["self", "step"]
  d__law_kinds : Def1 K mg "_law_kinds" s__law_kinds ["_law_error"]
  d__law_refused : Def1 K mg "_law_refused" s__law_refused ["_law_ask", "_law_thing", "_law_which"]
  d__law_all : Def1 K mg "_law_all" s__law_all ["_law_asks", "_law_things", "_law_which"]
  d__law_strange : Def1 K mg "_law_strange" s__law_strange ["_law_great"]
  d__law_no_steps : Def1 K mg "_law_no_steps" s__law_no_steps ["_law_great"]
  d__law_steps_right : Def1 K mg "_law_steps_right" s__law_steps_right ["_law_great"]
  d__law_places_right : Def1 K mg "_law_places_right" s__law_places_right ["_law_great"]
  d_law : Def1 K mg "law" s_law ["_law_script"]
  e_BadRing : ExcK K mg "BadRing"
  e_BadSteps : ExcK K mg "BadSteps"
  e_BadPlace : ExcK K mg "BadPlace"
  kx_BadRing : KdX K mg "RoundError" "BadRing" [("BadRing", true), ("BadSteps", false), ("BadPlace", false), ("BadCount", false), ("BadNumber", false), ("BadWay", false), ("BadPlaces", false), ("BadStep", false), ("BadTale", false), ("Nothing", false), ("ValueError", true)]
  kx_BadSteps : KdX K mg "RoundError" "BadSteps" [("BadRing", false), ("BadSteps", true), ("BadPlace", false), ("BadCount", false), ("BadNumber", false), ("BadWay", false), ("BadPlaces", false), ("BadStep", false), ("BadTale", false), ("Nothing", false), ("ValueError", true)]
  kx_BadPlace : KdX K mg "RoundError" "BadPlace" [("BadRing", false), ("BadSteps", false), ("BadPlace", true), ("BadCount", false), ("BadNumber", false), ("BadWay", false), ("BadPlaces", false), ("BadStep", false), ("BadTale", false), ("Nothing", false), ("ValueError", true)]
  c_GREATEST_STEP : IntC mg "GREATEST_STEP" 60
  c_MOST_PLACES : IntC mg "MOST_PLACES" 60
  c_MOST_STEPS : IntC mg "MOST_STEPS" 6
  c_MOST_TOLD_BACK : IntC mg "MOST_TOLD_BACK" 8
  z_ValueError : mg "ValueError" = none
  z_abs : mg "abs" = none
  z_all : mg "all" = none
  z_bool : mg "bool" = none
  z_enumerate : mg "enumerate" = none
  z_int : mg "int" = none
  z_isinstance : mg "isinstance" = none
  z_len : mg "len" = none
  z_list : mg "list" = none
  z_max : mg "max" = none
  z_range : mg "range" = none
  z_zip : mg "zip" = none
def clsN : Nat → Str
  | 0 => "Come"
  | 1 => "Never"
  | 2 => "Walker"
  | _ => ""
def fldN : Nat → List Str
  | 0 => ["way", "heights"]
  | 1 => ["part"]
  | 2 => ["ring", "steps", "at", "counts", "often", "deeds"]
  | _ => []
abbrev GGof (K : PySem.W.Frag) (mg : Str → Option Value) (gs gl : List GQ) : GG := { K := K, cls := fun c => clsOf mg (clsN c), flds := fldN, tabs := tabsOf gs, ltabs := ltabsOf gl, exs := lamEx LL, exX := lamEx_X LL }
theorem tx_of {K : PySem.W.Frag} {mg : Str → Option Value} {base : Heap} {bm : Addr} {ob : Obj} {gs gl : List GQ} (T : TX0 K mg) (hg : gs.map (·.1) = (["is_rising", "are_steps"] : List Str)) (hgl : gl.map (·.1) = (["_law_steps_right", "_law_places_right", "law"] : List Str)) (hB : BMod base mainGlobals mg bm ob) (hG : ∀ q ∈ gs, GB K base mg q) (hGl : ∀ q ∈ gl, GB K base mg q) : TX (GGof K mg gs gl) base mg where
  d_is_number := T.d_is_number
  d_is_within := T.d_is_within
  d_is_ring := T.d_is_ring
  d_is_rising := T.d_is_rising
  d_are_steps := T.d_are_steps
  d_is_place := T.d_is_place
  d_is_count := T.d_is_count
  d_check_ring := T.d_check_ring
  d_check_steps := T.d_check_steps
  d_check_place := T.d_check_place
  d_check_told := T.d_check_told
  d_led_to := T.d_led_to
  d_common_part := T.d_common_part
  d_copied := T.d_copied
  k_Come := T.k_Come
  f_Come := rfl
  k_Never := T.k_Never
  f_Never := rfl
  d_next_row := T.d_next_row
  d_fewest := T.d_fewest
  d_last_count := T.d_last_count
  d_way_to := T.d_way_to
  d_heights_of := T.d_heights_of
  d_told := T.d_told
  d_nearest := T.d_nearest
  d_far := T.d_far
  d_after := T.d_after
  d_every := T.d_every
  d_check_room := T.d_check_room
  d_check_small_ring := T.d_check_small_ring
  d_added := T.d_added
  d_twos := T.d_twos
  d_told_back := T.d_told_back
  d_how_many := T.d_how_many
  d_way_by := T.d_way_by
  d_number_of := T.d_number_of
  d_judged := T.d_judged
  k_Walker := T.k_Walker
  f_Walker := rfl
  d_Walker_move := T.d_Walker_move
  d_Walker_go := T.d_Walker_go
  d__law_kinds := T.d__law_kinds
  d__law_refused := T.d__law_refused
  d__law_all := T.d__law_all
  d__law_strange := T.d__law_strange
  d__law_no_steps := T.d__law_no_steps
  d__law_steps_right := T.d__law_steps_right
  d__law_places_right := T.d__law_places_right
  d_law := T.d_law
  c_GREATEST_STEP := T.c_GREATEST_STEP
  c_MOST_PLACES := T.c_MOST_PLACES
  c_MOST_STEPS := T.c_MOST_STEPS
  c_MOST_TOLD_BACK := T.c_MOST_TOLD_BACK
  z_ValueError := T.z_ValueError
  z_abs := T.z_abs
  z_all := T.z_all
  z_bool := T.z_bool
  z_enumerate := T.z_enumerate
  z_int := T.z_int
  z_isinstance := T.z_isinstance
  z_len := T.z_len
  z_list := T.z_list
  z_max := T.z_max
  z_range := T.z_range
  z_zip := T.z_zip
  e_BadRing := T.e_BadRing
  e_BadSteps := T.e_BadSteps
  e_BadPlace := T.e_BadPlace
  kx_BadRing := T.kx_BadRing
  kx_BadSteps := T.kx_BadSteps
  kx_BadPlace := T.kx_BadPlace
  gen := fun x hx => by
    rw [← hg] at hx
    obtain ⟨q, hq, rfl⟩ := List.mem_map.mp hx
    exact ⟨bm, ob, gs, hB, rfl, q, hq, rfl, hG q hq⟩
  lam := fun x hx => by
    rw [← hgl] at hx
    obtain ⟨q, hq, rfl⟩ := List.mem_map.mp hx
    exact ⟨bm, ob, gl, hB, rfl, q, hq, rfl, hGl q hq⟩
  exs := rfl
theorem law_F {P : Program} {w : World} {K : PySem.W.Frag} {mg : Str → Option Value} {fa : Addr} (T : TX0 K mg) (hmg : mg "law" = some (.ref fa)) : ∃ fd : FuncData, (∀ (s : Shared) (u : Value), BindsTo s fd ⟨[u], []⟩ [("_law_script", u)]) ∧
    ∀ (base : Heap) (bm : Addr) (ob : Obj) (gs gl : List GQ), gs.map (·.1) = (["is_rising", "are_steps"] : List Str) → gl.map (·.1) = (["_law_steps_right", "_law_places_right", "law"] : List Str) → K.In base → base.Ns mainGlobals mg → BMod base mainGlobals mg bm ob → (∀ q ∈ gs, GB K base mg q) → (∀ q ∈ gl, GB K base mg q) → FnOk P w K mg base CX0 13 fa fd ["_law_script"] (spLL F_law_k14 K gs gl) := by
  obtain ⟨f, fd, FF, hm, hb⟩ := T.d_law.ex
  have e := hmg.symm.trans hm
  cases e
  obtain ⟨oc, od, kV, doc, pm, an, cdv, ct, osl, rfl, lk, hcd⟩ := id FF.ex
  refine ⟨PySem.W.fnOf "law" "law" (defArgs s_law) (defBody s_law) (defScope s_law) .none kV doc pm an cdv ct, fun s u => .of_eq rfl, fun base bm ob gs gl hg hgl _ _ hB hG hGl => ?_⟩
  unfold spLL F_law_k14
  exact FnOk.imp (fn_ul (G := GGof K mg gs gl) ((tx_of T hg hgl hB hG hGl).lam _ (by decide)) hm (by decide) FF sc_law rfl (fun cdv A outer s H E hr hL => bd_law (tx_of T hg hgl hB hG hGl) _ cdv A outer s H E hr hL) (fun ds r h => ⟨0, h⟩)) fun vs H Q E h => h (GGof K mg gs gl) rfl rfl rfl
end U.K14
end
section
set_option Elab.async false
set_option linter.all false
set_option maxRecDepth 100000
set_option maxHeartbeats 1000000
/-! Reading the pure words. -/
namespace U
open PySem
theorem fs_rel {g : UG} {f : US} {n : Nat} (R : Nat → DS → Prop) : ∀ (xs : List D) (i : Nat) (δ : DS), R i δ → (∀ (j : Nat) x δ, xs[j]? = some x → R (i + j) δ → ∃ δ1 δ2, g x δ = some δ1 ∧ f n δ1 = some (.nx δ2) ∧ R (i + j + 1) δ2) → ∃ δ', uFs g f n xs δ = some (.nx δ') ∧ R (i + xs.length) δ'
  | [], i, δ, h0, _ => ⟨δ, rfl, h0⟩
  | x :: xs, i, δ, h0, st => by
    obtain ⟨δ1, δ2, h1, h2, h3⟩ := st 0 x δ rfl h0
    obtain ⟨δ', h4, h5⟩ := fs_rel R xs (i + 1) δ2 h3 fun j y δ hj hr => by
      have := st (j + 1) y δ (by simpa using hj) (by rw [show i + (j + 1) = i + 1 + j by omega]; exact hr)
      rw [show i + (j + 1) = i + 1 + j by omega] at this
      exact this
    refine ⟨δ', ?_, by rw [List.length_cons, show i + (xs.length + 1) = i + 1 + xs.length by omega]; exact h5⟩
    unfold uFs
    rw [h1]
    dsimp only
    rw [h2]
    exact h4
theorem lcs_map {g : UG} {c : UTf} {e : UEf} {δ : DS} (F : D → D) : ∀ (xs : List D), (∀ x ∈ xs, ∃ δ1, g x δ = some δ1 ∧ c δ1 = some true ∧ e δ1 = some (F x)) → uLcs g c e δ xs = some (xs.map F)
  | [], _ => rfl
  | x :: xs, h => by
    obtain ⟨δ1, h1, h2, h3⟩ := h x List.mem_cons_self
    unfold uLcs
    rw [h1]
    dsimp only
    rw [h2]
    dsimp only
    rw [h3, lcs_map F xs fun y hy => h y (List.mem_cons_of_mem _ hy)]
    rfl
/-! ### words, one at a time -/
section
variable {f g : UEf} {fs : ULf} {δ : DS} {i n : Nat} {B : List Nat} {xs ys : List D} {d : D} {v : Int}
theorem cat_run (h1 : f δ = some (.lst xs)) (h2 : g δ = some (.lst ys)) : uCat f g δ = some (xs ++ ys) := by unfold uCat; rw [h1, h2]
theorem sm_run (h : fs δ = some xs) (hl : xs.length ≤ 1000000) : uSm fs δ = some xs := by
  unfold uSm; rw [h]; dsimp only; unfold sm small; rw [if_pos (by simpa using hl)]
theorem list_run (h : fs δ = some xs) : uList fs δ = some (.lst xs) := by unfold uList; rw [h]; rfl
theorem setL_run' (h : fs δ = some xs) (hf : flats xs = false) : uSetL i fs B n δ = some (.nx ((dem B δ).set i (some (.ol xs)))) := by
  unfold uSetL; rw [h]; show some (SR.nx (putL B δ i xs)) = _; unfold putL; rw [if_neg (by rw [hf]; exact Bool.false_ne_true)]
theorem set_run (h : f δ = some d) (hf : d.flat = true) : uSet i f B n δ = some (.nx (δ.set i (some (.sh d)))) := by
  unfold uSet; rw [h]; show some (SR.nx (put B δ i d)) = _; unfold put; rw [if_pos hf]
theorem seq_run {u w : US} {δ' : DS} (h : u n δ = some (.nx δ')) : uSeq u w n δ = w n δ' := by unfold uSeq; rw [h]
theorem ifS_t {c : UTf} {u w : US} (h : c δ = some true) : uIfS c u w n δ = u n δ := by unfold uIfS; rw [h]
theorem ifS_f {c : UTf} {u w : US} (h : c δ = some false) : uIfS c u w n δ = w n δ := by unfold uIfS; rw [h]
end
end U
end
section
set_option Elab.async false
set_option linter.all false
set_option maxRecDepth 100000
set_option maxHeartbeats 1000000
/-! The same for states of many names. -/
namespace U
open PySem
def demG (B : List Nat) : Nat → DS → DS
  | _, [] => []
  | k, o :: δ => (if k ∈ B then o.map SV.dem else o) :: demG B (k + 1) δ
theorem demG_get (B : List Nat) : ∀ (δ : DS) (k i : Nat), (demG B k δ)[i]? = (δ[i]?).map fun o => if k + i ∈ B then o.map SV.dem else o
  | [], k, i => by simp [demG]
  | o :: δ, k, 0 => by simp [demG]
  | o :: δ, k, i + 1 => by
    show (demG B (k + 1) δ)[i]? = (δ[i]?).map _
    rw [demG_get B δ (k + 1) i, show k + 1 + i = k + (i + 1) by omega]
theorem dem_eq (B : List Nat) (δ : DS) : dem B δ = demG B 0 δ := by
  apply List.ext_getElem?
  intro i
  rw [dem_get, demG_get, Nat.zero_add]
section
variable {f g : UEf} {fs : ULf} {δ δ2 : DS} {i n : Nat} {B own : List Nat} {xs ys xs0 : List D} {d : D}
theorem for_runG {src : ULf} {gg : UG} {u : US} (h : src δ = some xs) (h2 : demG B 0 δ = δ2) : uFor src B gg u n δ = uFs gg u n xs δ2 := by unfold uFor; rw [h]; dsimp only; rw [dem_eq, h2]
theorem setL_runG (h : fs δ = some xs) (hf : flats xs = false) (h2 : (demG B 0 δ).set i (some (.ol xs)) = δ2) : uSetL i fs B n δ = some (.nx δ2) := by rw [setL_run' h hf, dem_eq, h2]
theorem lc_runG {src : ULf} {gg : UG} {c : UTf} {e : UEf} (h : src δ = some xs) (h2 : wipeD (demG B 0 δ) own = δ2) (h3 : uLcs gg c e δ2 xs = some ys) : uLc src B gg c e own δ = some ys := by unfold uLc; rw [h]; dsimp only; rw [dem_eq, h2, h3]
theorem op_run {op : D → D → Option D} {x y z : D} (h1 : f δ = some x) (h2 : g δ = some y) (h3 : op x y = some z) : uOp op f g δ = some z := by unfold uOp; rw [h1, h2]; exact h3
theorem fn_run {op : List D → Option D} (h : fs δ = some xs) (h2 : op xs = some d) : uFn op fs δ = some d := by unfold uFn; rw [h]; exact h2
theorem cons_run (h : f δ = some d) (h2 : fs δ = some xs) : uCons f fs δ = some (d :: xs) := by unfold uCons; rw [h, h2]
theorem callL_run {F : List D → Option SV} (h : fs δ = some xs) (h2 : F xs = some (.ol ys)) : uCallL F fs δ = some ys := by unfold uCallL; rw [h]; dsimp only; rw [h2]
theorem B_run {b : Bool} (h : f δ = some (.bl b)) : uB f δ = some b := by unfold uB; rw [h]
theorem call_run {F : List D → Option SV} {s : SV} (h : fs δ = some xs) (h2 : F xs = some s) : uCall F fs δ = some s.d := by unfold uCall; rw [h]; dsimp only; rw [h2]; rfl
end
end U
end
section
set_option Elab.async false
set_option linter.all false
set_option maxRecDepth 100000
set_option maxHeartbeats 1000000
/-! Statements gone through one behind another, the states left to be found. -/
namespace U
open PySem
section
variable {f g : UEf} {c p q : UTf} {fs : ULf} {u w u2 : US} {δ δ1 δ2 : DS} {i j n : Nat} {B B2 own : List Nat} {xs ys xs0 : List D} {d x y z : D} {s : SV} {b : Bool}
theorem nil_run : uNil δ = some [] := rfl
theorem run_to {N fuel : Nat} (e : startD N xs = δ) (h : u fuel δ = some (.rt s)) : runD u fuel N xs = some s := by unfold runD; rw [e, h]
theorem run_nx {N fuel : Nat} (h : u fuel (startD N xs) = some (.nx δ)) : runD u fuel N xs = some (.sh .non) := by unfold runD; rw [h]
theorem seq_rt (h : u n δ = some (.rt s)) : uSeq u w n δ = some (.rt s) := by unfold uSeq; rw [h]
theorem skip_run (h : c δ = some false) : uIfS c u uNext n δ = some (.nx δ) := by rw [ifS_f h]; rfl
theorem ret_run (h : f δ = some d) : uRet f n δ = some (.rt (.sh d)) := by unfold uRet; rw [h]; rfl
theorem retL_run (h : fs δ = some xs) : uRetL fs n δ = some (.rt (.ol xs)) := by unfold uRetL; rw [h]; rfl
theorem drop_run (h : f δ = some d) : uDrop f n δ = some (.nx δ) := by unfold uDrop; rw [h]; rfl
theorem or_t (h : p δ = some true) : uOr p q δ = some true := by unfold uOr; rw [h]
theorem or_f (h : p δ = some false) : uOr p q δ = q δ := by unfold uOr; rw [h]
theorem or_run {b2 : Bool} (h : p δ = some b) (h2 : b = false → q δ = some b2) : uOr p q δ = some (b || b2) := by
  cases b with
  | true => rw [or_t h]; rfl
  | false => rw [or_f h, h2 rfl]; rfl
theorem not_run (h : p δ = some b) : uNot p δ = some (!b) := by unfold uNot; rw [h]; rfl
theorem andV_run {b2 : Bool} (h : f δ = some (.bl b)) (h2 : b = true → g δ = some (.bl b2)) : uAndV f g δ = some (.bl (b && b2)) := by
  unfold uAndV
  rw [h]
  cases b with
  | true => dsimp only; rw [h2 rfl]; rfl
  | false => rfl
theorem un_run {op : D → Option D} (h : f δ = some x) (h2 : op x = some z) : uUn op f δ = some z := by unfold uUn; rw [h]; exact h2
theorem as_run (h : f δ = some (.lst xs)) : uAs f δ = some xs := by unfold uAs; rw [h]
theorem ch_run {h : UEf} {P Q : Int → Int → Bool} {i j k : Int} (h1 : f δ = some (.int i)) (h2 : g δ = some (.int j)) (h3 : h δ = some (.int k)) : uCh P Q f g h δ = some (.bl (P i j && Q j k)) := by unfold uCh; rw [h1, h2, h3]; rfl
theorem mod_run {a m : Int} (h1 : f δ = some (.int a)) (h2 : g δ = some (.int m)) (hm : 0 < m) : uOp dMod f g δ = some (.int (a % m)) := op_run h1 h2 (by show (if decide (0 < m) = true then some (D.int _) else none) = _; rw [if_pos (decide_eq_true hm)])
theorem dI_ok {c : Int → Int → Bool} {g : Int → Int → D} {i j : Int} {v : D} (h : c i j = true) (hv : g i j = v) : dI c g (.int i) (.int j) = some v := by unfold dI; dsimp only; rw [if_pos h, hv]
theorem pow_ok {i j v : Int} (h : (decide (0 ≤ j) && decide (j ≤ 1000000) && decide (i.natAbs < 18446744073709551616)) = true) (hv : i ^ j.toNat = v) : dPow (.int i) (.int j) = some (.int v) := by unfold dPow; exact dI_ok h (congrArg D.int hv)
/-- ends with a next state of which P holds -/
def Nx (o : Option SR) (P : DS → Prop) : Prop := ∃ δ, o = some (.nx δ) ∧ P δ
theorem nx_of {P : DS → Prop} (h : u n δ = some (.nx δ1)) (q : P δ1) : Nx (u n δ) P := ⟨δ1, h, q⟩
theorem nx_seq {P : DS → Prop} (h : u n δ = some (.nx δ1)) (h2 : Nx (w n δ1) P) : Nx (uSeq u w n δ) P := by
  obtain ⟨δ2, e, q⟩ := h2
  exact ⟨δ2, by rw [seq_run h, e], q⟩
theorem nx_imp {P R : DS → Prop} {o : Option SR} (h : Nx o R) (h2 : ∀ δ1, R δ1 → P δ1) : Nx o P := by
  obtain ⟨δ1, e, q⟩ := h
  exact ⟨δ1, e, h2 δ1 q⟩
theorem nx_skip {P : DS → Prop} (h : c δ = some false) (q : P δ) : Nx (uIfS c u uNext n δ) P := ⟨δ, skip_run h, q⟩
theorem nx_for {src : ULf} {gg : UG} {P : DS → Prop} (I : Nat → DS → Prop) (h : src δ = some xs) (h0 : I 0 (demG B 0 δ)) (st : ∀ (j : Nat) x δ, xs[j]? = some x → I j δ → ∃ δ1, gg x δ = some δ1 ∧ Nx (u n δ1) (I (j + 1))) (q : ∀ δ', I xs.length δ' → P δ') : Nx (uFor src B gg u n δ) P := by
  obtain ⟨δ', e, r⟩ := fs_rel (g := gg) (f := u) (n := n) I xs 0 (demG B 0 δ) h0 (fun j x δ hj hI => by
    rw [Nat.zero_add] at hI ⊢
    obtain ⟨δ1, h1, δ2, h2, h3⟩ := st j x δ hj hI
    exact ⟨δ1, δ2, h1, h2, h3⟩)
  rw [Nat.zero_add] at r
  exact ⟨δ', by rw [for_runG h rfl]; exact e, q δ' r⟩
/-- the same, the place in the list left aside -/
theorem nx_each {src : ULf} {gg : UG} {P : DS → Prop} (I : DS → Prop) (h : src δ = some xs) (h0 : I (demG B 0 δ)) (st : ∀ x ∈ xs, ∀ δ, I δ → ∃ δ1, gg x δ = some δ1 ∧ Nx (u n δ1) I) (q : ∀ δ', I δ' → P δ') : Nx (uFor src B gg u n δ) P :=
  nx_for (fun _ => I) h h0 (fun j x δ hj hI => st x (List.mem_of_getElem? hj) δ hI) q
theorem seq_nx (h : Nx (u n δ) fun δ1 => w n δ1 = some (.rt s)) : uSeq u w n δ = some (.rt s) := by
  obtain ⟨δ1, e, q⟩ := h
  rw [seq_run e]; exact q
theorem seq_go (h : u n δ = some (.nx δ1)) (h2 : w n δ1 = some (.rt s)) : uSeq u w n δ = some (.rt s) := by rw [seq_run h]; exact h2
end
end U
end
section
set_option Elab.async false
set_option linter.all false
set_option maxRecDepth 100000
set_option maxHeartbeats 1000000
/-! Rings, steps and places of any kind: what is refused. -/
namespace U
open PySem
def plD (d : D) : Bool := (tyD d).isSome
def isI (d : D) : Bool := match d with | .int _ => true | _ => false
def isW (d : D) (a b : Int) : Bool := match d with | .int i => decide (a ≤ i) && decide (i ≤ b) | _ => false
theorem v_num {d : D} (h : plD d = true) : F_is_number [d] = some (.sh (.bl (isI d))) := by
  unfold F_is_number
  cases d <;> first | rfl | (exfalso; revert h; decide) | (simp [plD, tyD] at h)
theorem v_within {d : D} {a b : Int} (h : plD d = true) : F_is_within [d, .int a, .int b] = some (.sh (.bl (isW d a b))) := by
  have e := v_num h
  have e2 : uCall F_is_number (uCons (uVar 0) uNil) [some (.sh d), some (.sh (.int a)), some (.sh (.int b))] = some (.bl (isI d)) := call_run (F := F_is_number) (xs := [d]) (cons_run rfl nil_run) e
  unfold F_is_within
  refine run_to rfl (ret_run ?_)
  cases d with
  | int i =>
    refine (andV_run (b := true) (b2 := decide (a ≤ i) && decide (i ≤ b)) e2 fun _ => ch_run rfl rfl rfl).trans rfl
  | _ => exact (andV_run (b := false) (b2 := false) e2 fun h => by cases h).trans rfl
theorem v_ring {d : D} (h : plD d = true) : F_is_ring [d] = some (.sh (.bl (isW d 1 60))) := by
  unfold F_is_ring
  exact run_to rfl (ret_run (call_run (F := F_is_within) (xs := [d, .int 1, .int 60]) rfl (v_within h)))
theorem v_place {d : D} {r : Int} (h : plD d = true) : F_is_place [.int r, d] = some (.sh (.bl (isW d 0 (r - 1)))) := by
  unfold F_is_place
  exact run_to rfl (ret_run (call_run (F := F_is_within) (xs := [d, .int 0, .int (r - 1)]) rfl (v_within h)))
/-! ### steps -/
theorem v_all {δ : DS} (xs : List D) (hp : ∀ x ∈ xs, plD x = true) (hl : δ.length = 2) : uGAs true (gVar 1) (uCall F_is_within (uCons (uVar 1) (uCons (uC (.int 1)) (uCons (uC (.int 60)) uNil)))) δ xs = some (xs.all fun x => isW x 1 60) := by
  match δ, hl with
  | [a, b], _ =>
  induction xs with
  | nil => rfl
  | cons x xs ih =>
    have ih := ih fun y hy => hp y (List.mem_cons_of_mem _ hy)
    unfold uGAs
    rw [show gVar 1 x [a, b] = some [a, some (.sh x)] from rfl]
    dsimp only
    rw [call_run (F := F_is_within) (xs := [x, .int 1, .int 60]) rfl (v_within (hp x List.mem_cons_self))]
    dsimp only [SV.d]
    rw [List.all_cons]
    cases isW x 1 60 with
    | true => rw [if_pos rfl, ih]; rfl
    | false => rw [if_neg (by decide)]; rfl
theorem s_kind {d : D} (h : plD d = true) (n : ∀ xs, d ≠ .lst xs) (n2 : ∀ xs, d ≠ .frz xs) : F_are_steps_k14 [d] = some (.sh (.bl false)) := by
  unfold F_are_steps_k14
  cases d with
  | lst xs => exact absurd rfl (n xs)
  | frz xs => exact absurd rfl (n2 xs)
  | obj c xs => simp [plD, tyD] at h
  | ex k => simp [plD, tyD] at h
  | _ => rfl
theorem s_len {xs : List D} (h : (decide (1 ≤ xs.length) && decide (xs.length ≤ 6)) = false) : F_are_steps_k14 [.lst xs] = some (.sh (.bl false)) := by
  unfold F_are_steps_k14
  refine run_to rfl (seq_rt ((ifS_t (or_run (b := false) (b2 := true) (not_run (b := true) rfl) fun _ => not_run (b := false) (B_run (ch_run (i := 1) (j := xs.length) (k := 6) rfl rfl rfl |>.trans ?_)))).trans (ret_run rfl)))
  congr 2
  rw [← h]
  congr 1
  · exact decide_eq_decide.mpr (by omega)
  · exact decide_eq_decide.mpr (by omega)
theorem s_item {xs : List D} (h1 : 1 ≤ xs.length) (h2 : xs.length ≤ 6) (hp : ∀ x ∈ xs, plD x = true) (hb : (xs.all fun x => isW x 1 60) = false) : F_are_steps_k14 [.lst xs] = some (.sh (.bl false)) := by
  unfold F_are_steps_k14
  refine run_to rfl (seq_go (δ1 := [some (.sh (.lst xs)), none]) (skip_run (or_run (b := false) (b2 := false) (not_run (b := true) rfl) fun _ => not_run (b := true) (B_run (ch_run (i := 1) (j := xs.length) (k := 6) rfl rfl rfl |>.trans ?_)))) ?_)
  · congr 2
    rw [Bool.and_eq_true, decide_eq_true_eq, decide_eq_true_eq]
    omega
  · refine ret_run ((andV_run (b := false) (b2 := false) ?_ fun h => by cases h).trans rfl)
    show (uGAs true (gVar 1) _ _ xs).map D.bl = _
    rw [v_all xs hp rfl, hb]
    rfl
end U
namespace U
open PySem
/-! ### what is raised -/
abbrev eR : Option Str := some ("BadRing" : Str)
abbrev eS : Option Str := some ("BadSteps" : Str)
abbrev eP : Option Str := some ("BadPlace" : Str)
theorem r_ring {d : D} (h : plD d = true) (hb : isW d 1 60 = false) : R_check_ring [d] = eR := by
  unfold R_check_ring r_check_ring rIf
  rw [show (uNot (uB (uCall F_is_ring (uCons (uVar 0) uNil)))) (startD 1 [d]) = some true from not_run (b := false) (B_run (call_run (F := F_is_ring) (xs := [d]) rfl ((v_ring h).trans (by rw [hb]))))]
theorem r_ring0 {d : D} (h : plD d = true) (hb : isW d 1 60 = true) : R_check_ring [d] = none := by
  unfold R_check_ring r_check_ring rIf
  rw [show (uNot (uB (uCall F_is_ring (uCons (uVar 0) uNil)))) (startD 1 [d]) = some false from not_run (b := true) (B_run (call_run (F := F_is_ring) (xs := [d]) rfl ((v_ring h).trans (by rw [hb]))))]
theorem c_ring {d : D} (h : plD d = true) (hb : isW d 1 60 = true) : F_check_ring [d] = some (.sh .non) := by
  unfold F_check_ring
  exact run_nx (skip_run (not_run (b := true) (B_run (call_run (F := F_is_ring) (xs := [d]) rfl ((v_ring h).trans (by rw [hb]))))))
theorem r_steps {d : D} (h : F_are_steps_k14 [d] = some (.sh (.bl false))) : R_check_steps [d] = eS := by
  unfold R_check_steps r_check_steps rIf
  rw [show (uNot (uB (uCall F_are_steps_k14 (uCons (uVar 0) uNil)))) (startD 1 [d]) = some true from not_run (b := false) (B_run (call_run (F := F_are_steps_k14) (xs := [d]) rfl h))]
theorem r_steps0 {d : D} (h : F_are_steps_k14 [d] = some (.sh (.bl true))) : R_check_steps [d] = none := by
  unfold R_check_steps r_check_steps rIf
  rw [show (uNot (uB (uCall F_are_steps_k14 (uCons (uVar 0) uNil)))) (startD 1 [d]) = some false from not_run (b := true) (B_run (call_run (F := F_are_steps_k14) (xs := [d]) rfl h))]
theorem c_steps {d : D} (h : F_are_steps_k14 [d] = some (.sh (.bl true))) : F_check_steps_k14 [d] = some (.sh .non) := by
  unfold F_check_steps_k14
  exact run_nx (skip_run (not_run (b := true) (B_run (call_run (F := F_are_steps_k14) (xs := [d]) rfl h))))
theorem r_place {d : D} {r : Int} (h : plD d = true) (hb : isW d 0 (r - 1) = false) : R_check_place [.int r, d] = eP := by
  unfold R_check_place r_check_place rIf
  rw [show (uNot (uB (uCall F_is_place (uCons (uVar 0) (uCons (uVar 1) uNil))))) (startD 2 [.int r, d]) = some true from not_run (b := false) (B_run (call_run (F := F_is_place) (xs := [.int r, d]) rfl ((v_place h).trans (by rw [hb]))))]
theorem r_place0 {d : D} {r : Int} (h : plD d = true) (hb : isW d 0 (r - 1) = true) : R_check_place [.int r, d] = none := by
  unfold R_check_place r_check_place rIf
  rw [show (uNot (uB (uCall F_is_place (uCons (uVar 0) (uCons (uVar 1) uNil))))) (startD 2 [.int r, d]) = some false from not_run (b := true) (B_run (call_run (F := F_is_place) (xs := [.int r, d]) rfl ((v_place h).trans (by rw [hb]))))]
theorem c_place {d : D} {r : Int} (h : plD d = true) (hb : isW d 0 (r - 1) = true) : F_check_place [.int r, d] = some (.sh .non) := by
  unfold F_check_place
  exact run_nx (skip_run (not_run (b := true) (B_run (call_run (F := F_is_place) (xs := [.int r, d]) rfl ((v_place h).trans (by rw [hb]))))))
theorem alt_a {f g : DS → Option Str} {δ : DS} {y : Str} (h : f δ = some y) : rAlt f g δ = some y := by unfold rAlt; rw [h]
theorem alt_b {f g : DS → Option Str} {δ : DS} (h : f δ = none) : rAlt f g δ = g δ := by unfold rAlt; rw [h]
theorem next_r {k : Nat} {u : US} {R : DS → Option Str} {δ δ' : DS} (h : u k δ = some (.nx δ')) : rNext k u R δ = R δ' := by unfold rNext; rw [h]
theorem rcall_r {R : List D → Option Str} {fs : ULf} {δ : DS} {ds : List D} (h : fs δ = some ds) : rCall R fs δ = R ds := by unfold rCall; rw [h]
/-- ring and steps asked, then the rest -/
theorem two_ring {n : Nat} {d : D} {ds : List D} {g : DS → Option Str} (hp : plD d = true) (hb : isW d 1 60 = false) : rAlt (rCall R_check_ring (uCons (uVar 0) uNil)) g (startD n (d :: ds)) = eR :=
  alt_a ((rcall_r (ds := [d]) rfl).trans (r_ring hp hb))
theorem t_ring {d b c : D} (hp : plD d = true) (hb : isW d 1 60 = false) : R_check_told [d, b, c] = eR := by
  unfold R_check_told; exact two_ring hp hb
theorem past_ring {n : Nat} {r : Int} {ds : List D} {g : DS → Option Str} (hb : isW (.int r) 1 60 = true) : rAlt (rCall R_check_ring (uCons (uVar 0) uNil)) (rNext 0 (uDrop (uCall F_check_ring (uCons (uVar 0) uNil))) g) (startD n (.int r :: ds)) = g (startD n (.int r :: ds)) :=
  (alt_b ((rcall_r (ds := [.int r]) rfl).trans (r_ring0 rfl hb))).trans (next_r (drop_run (call_run (F := F_check_ring) (xs := [.int r]) rfl (c_ring rfl hb))))
theorem t_steps {r : Int} {b c : D} (hb : isW (.int r) 1 60 = true) (hs : F_are_steps_k14 [b] = some (.sh (.bl false))) : R_check_told [.int r, b, c] = eS := by
  unfold R_check_told
  exact (past_ring hb).trans (alt_a ((rcall_r (ds := [b]) rfl).trans (r_steps hs)))
theorem past_steps {r : Int} {b c : D} {g : DS → Option Str} (hs : F_are_steps_k14 [b] = some (.sh (.bl true))) : rAlt (rCall R_check_steps (uCons (uVar 1) uNil)) (rNext 0 (uDrop (uCall F_check_steps_k14 (uCons (uVar 1) uNil))) g) (startD 4 [.int r, b, c]) = g (startD 4 [.int r, b, c]) :=
  (alt_b ((rcall_r (ds := [b]) rfl).trans (r_steps0 hs))).trans (next_r (drop_run (call_run (F := F_check_steps_k14) (xs := [b]) rfl (c_steps hs))))
theorem for_r {src : ULf} {B : List Nat} {g : UG} {R : DS → Option Str} {u : US} {n : Nat} {δ δ' : DS} {xs : List D} (h : src δ = some xs) (e : dem B δ = δ') : rFor src B g R u n δ = rFs g R u n xs δ' := by unfold rFor; rw [h, ← e]
theorem fs_here {g : UG} {R : DS → Option Str} {u : US} {n : Nat} {δ δ1 : DS} {x : D} {xs : List D} {y : Str} (h : g x δ = some δ1) (h2 : R δ1 = some y) : rFs g R u n (x :: xs) δ = some y := by unfold rFs; rw [h]; dsimp only; rw [h2]
theorem fs_past {g : UG} {R : DS → Option Str} {u : US} {n : Nat} {δ δ1 δ2 : DS} {x : D} {xs : List D} (h : g x δ = some δ1) (h2 : R δ1 = none) (h3 : u n δ1 = some (.nx δ2)) : rFs g R u n (x :: xs) δ = rFs g R u n xs δ2 := by
  show (match g x δ with | none => none | some δ1 => match R δ1 with | some y => some y | none => match u n δ1 with | some (.nx δ') => rFs g R u n xs δ' | _ => none) = _
  rw [h]; dsimp only; rw [h2]; dsimp only; rw [h3]
theorem t_place1 {r : Int} {b p : D} {ps : List D} (hb : isW (.int r) 1 60 = true) (hs : F_are_steps_k14 [b] = some (.sh (.bl true))) (hp : plD p = true) (hq : isW p 0 (r - 1) = false) : R_check_told [.int r, b, .lst (p :: ps)] = eP := by
  unfold R_check_told
  refine (past_ring hb).trans ((past_steps hs).trans ?_)
  refine (for_r (xs := p :: ps) (δ' := [some (.sh (.int r)), some (.sh b), some (.sh (.lst (p :: ps))), none]) rfl rfl).trans ?_
  exact fs_here (δ1 := [some (.sh (.int r)), some (.sh b), some (.sh (.lst (p :: ps))), some (.sh p)]) rfl ((rcall_r (ds := [.int r, p]) rfl).trans (r_place hp hq))
theorem t_place2 {r : Int} {b p p2 : D} {ps : List D} (hb : isW (.int r) 1 60 = true) (hs : F_are_steps_k14 [b] = some (.sh (.bl true))) (h0 : plD p = true) (h1 : isW p 0 (r - 1) = true) (hp : plD p2 = true) (hq : isW p2 0 (r - 1) = false) : R_check_told [.int r, b, .lst (p :: p2 :: ps)] = eP := by
  unfold R_check_told
  refine (past_ring hb).trans ((past_steps hs).trans ?_)
  refine (for_r (xs := p :: p2 :: ps) (δ' := [some (.sh (.int r)), some (.sh b), some (.sh (.lst (p :: p2 :: ps))), none]) rfl rfl).trans ?_
  refine (fs_past (δ1 := [some (.sh (.int r)), some (.sh b), some (.sh (.lst (p :: p2 :: ps))), some (.sh p)]) rfl ((rcall_r (ds := [.int r, p]) rfl).trans (r_place0 h0 h1)) (drop_run (call_run (F := F_check_place) (xs := [.int r, p]) rfl (c_place h0 h1)))).trans ?_
  exact fs_here (δ1 := [some (.sh (.int r)), some (.sh b), some (.sh (.lst (p :: p2 :: ps))), some (.sh p2)]) rfl ((rcall_r (ds := [.int r, p2]) rfl).trans (r_place hp hq))
/-! ### the doors -/
section
variable {a b c d e f : D}
theorem d_told : R_told [a, b, c, d] = R_check_told [a, b, .lst [c, d]] := by unfold R_told; rfl
theorem d_nearest : R_nearest [a, b, c] = R_check_told [a, b, .lst [c]] := by unfold R_nearest; rfl
theorem d_how : R_how_many [a, b, c, d, e] = R_check_told [a, b, .lst [c, d]] := by unfold R_how_many; rfl
theorem d_way : R_way_by_k14 [a, b, c, d, e, f] = R_check_told [a, b, .lst [c, d]] := by unfold R_way_by_k14; rfl
theorem d_after : R_after [a, b, c, d] = R_check_told [a, b, .lst [c]] := by unfold R_after; rfl
theorem d_judged : R_judged [a, b, c, d] = R_check_told [a, b, .lst [c]] := by unfold R_judged; rfl
theorem d_walker : R_Walker [a, b, c] = R_check_told [a, b, .lst [c]] := by unfold R_Walker; rfl
theorem d_twos : R_twos [a, b] = R_after [a, b, .int 0, .int 2] := by unfold R_twos; rfl
theorem d_back : R_told_back [a, b] = R_check_small_ring [a] := by unfold R_told_back; rfl
theorem r_small (h : plD a = true) (hb : isW a 1 8 = false) : R_check_small_ring [a] = eR := by
  unfold R_check_small_ring r_check_small_ring rIf
  rw [show (uNot (uB (uCall F_is_within (uCons (uVar 0) (uCons (uC (.int 1)) (uCons (uC (.int 8)) uNil)))))) (startD 1 [a]) = some true from not_run (b := false) (B_run (call_run (F := F_is_within) (xs := [a, .int 1, .int 8]) rfl ((v_within h).trans (by rw [hb]))))]
theorem far_ring (h : plD a = true) (hb : isW a 1 60 = false) : R_far [a, b] = eR := by unfold R_far; exact two_ring h hb
theorem every_ring (h : plD a = true) (hb : isW a 1 60 = false) : R_every [a, b] = eR := by unfold R_every; exact two_ring h hb
theorem added_ring (h : plD a = true) (hb : isW a 1 60 = false) : R_added [a, b] = eR := by unfold R_added; exact two_ring h hb
theorem number_ring (h : plD a = true) (hb : isW a 1 60 = false) : R_number_of [a, b, c] = eR := by unfold R_number_of; exact two_ring h hb
variable {r : Int}
theorem far_steps (hb : isW (.int r) 1 60 = true) (hs : F_are_steps_k14 [b] = some (.sh (.bl false))) : R_far [.int r, b] = eS := by
  unfold R_far
  exact (past_ring hb).trans ((rcall_r (ds := [b]) rfl).trans (r_steps hs))
theorem every_steps (hb : isW (.int r) 1 60 = true) (hs : F_are_steps_k14 [b] = some (.sh (.bl false))) : R_every [.int r, b] = eS := by
  unfold R_every
  exact (past_ring hb).trans ((rcall_r (ds := [b]) rfl).trans (r_steps hs))
theorem number_steps (hb : isW (.int r) 1 60 = true) (hs : F_are_steps_k14 [b] = some (.sh (.bl false))) : R_number_of [.int r, b, c] = eS := by
  unfold R_number_of
  exact (past_ring hb).trans ((rcall_r (ds := [b]) rfl).trans (r_steps hs))
theorem added_steps (hb : isW (.int r) 1 60 = true) (hs : F_are_steps_k14 [b] = some (.sh (.bl false))) : R_added [.int r, b] = eS := by
  unfold R_added
  exact (past_ring hb).trans (alt_a ((rcall_r (ds := [b]) rfl).trans (r_steps hs)))
end
end U
end
section
set_option Elab.async false
set_option linter.all false
set_option maxRecDepth 100000
set_option maxHeartbeats 1000000
/-! All doors asked with all things. -/
namespace U
open PySem
theorem try_run {RL : Nat → List D → Option Str} {kd : Str → Option (List Bool)} {ia it is ie n m : Nat} {δ : DS} {d : D} {y : Str} {bs : List Bool} (h1 : uVar ia δ = some (.ex n)) (h2 : uVar it δ = some d) (h3 : RL n [d] = some y) (h4 : kd y = some bs) :
    uTryF RL kd ia it is ie m δ = some (.nx (((δ.set ie none).set is (some (.ol (bs.map D.bl)))).set ie none)) := by
  unfold uTryF
  rw [h1]; dsimp only
  rw [h2]; dsimp only
  rw [h3]; dsimp only
  rw [h4]
theorem v_ref {n : Nat} {d : D} {w : Int} {y : Str} {bs : List Bool} (h : RL_14 n [d] = some y) (hk : kd_14 y = some bs)
    (he : (uRet (uOp dEq (uVar 3) (uList (uSm (uCat (uList (uSm (uLc (uRange1 (uCons (uC (.int 10)) uNil)) [] (gVar 5) uYes (uOp dEq (uVar 5) (uVar 2)) [5]))) (uList (uSm (uCons (uC (.bl true)) uNil)))))))) 0 [some (.sh (.ex n)), some (.sh d), some (.sh (.int w)), some (.ol (bs.map D.bl)), none, none] = some (.rt (.sh (.bl true)))) :
    F__law_refused [.ex n, d, .int w] = some (.sh (.bl true)) := by
  unfold F__law_refused
  exact run_to rfl (seq_go (δ1 := [some (.sh (.ex n)), some (.sh d), some (.sh (.int w)), some (.ol []), none, none]) rfl (seq_go (try_run (n := n) (d := d) rfl rfl h hk) he))
theorem ref0 {n : Nat} {d : D} (h : RL_14 n [d] = eR) : F__law_refused [.ex n, d, .int 0] = some (.sh (.bl true)) := v_ref h (bs := [true, false, false, false, false, false, false, false, false, false, true]) rfl rfl
theorem ref1 {n : Nat} {d : D} (h : RL_14 n [d] = eS) : F__law_refused [.ex n, d, .int 1] = some (.sh (.bl true)) := v_ref h (bs := [false, true, false, false, false, false, false, false, false, false, true]) rfl rfl
theorem ref2 {n : Nat} {d : D} (h : RL_14 n [d] = eP) : F__law_refused [.ex n, d, .int 2] = some (.sh (.bl true)) := v_ref h (bs := [false, false, true, false, false, false, false, false, false, false, true]) rfl rfl
theorem all_true (xs : List D) : bAll [.lst (xs.map fun _ => D.bl true)] = some (.bl true) := by
  unfold bAll
  dsimp only
  have : boolsD (xs.map fun _ => D.bl true) = some (xs.map fun _ => true) := by
    induction xs with
    | nil => rfl
    | cons x xs ih => unfold boolsD; rw [List.map_cons]; dsimp only; rw [ih]; rfl
  rw [this]
  show some (D.bl ((xs.map fun _ => true).all id)) = _
  congr 2
  rw [List.all_eq_true]
  intro b hb
  obtain ⟨_, _, rfl⟩ := List.mem_map.mp hb
  rfl
abbrev LA (es ds : List D) (w : Int) (o : Option SV) : DS := [some (.sh (.lst es)), some (.sh (.lst ds)), some (.sh (.int w)), o, none]
theorem v_all14 {es ds : List D} {w : Int} (hl : ds.length ≤ 1000) (h : ∀ e ∈ es, ∀ d ∈ ds, F__law_refused [e, d, .int w] = some (.sh (.bl true))) : F__law_all_k14 [.lst es, .lst ds, .int w] = some (.sh (.bl true)) := by
  unfold F__law_all_k14
  refine run_to rfl (seq_nx (nx_each (xs := es) (fun δ => ∃ o, δ = LA es ds w o) rfl ⟨none, rfl⟩ ?_ ?_))
  · rintro x hx δ ⟨o, rfl⟩
    refine ⟨LA es ds w (some (.sh x)), rfl, nx_skip (not_run (b := true) (B_run (fn_run (cons_run (list_run (sm_run (lc_runG (xs := ds) (ys := ds.map fun _ => D.bl true) (δ2 := LA es ds w (some (.sh x))) rfl rfl ?_) (by rw [List.length_map]; omega))) nil_run) (all_true ds)))) ⟨_, rfl⟩⟩
    refine lcs_map (fun _ => D.bl true) ds fun d hd => ⟨[some (.sh (.lst es)), some (.sh (.lst ds)), some (.sh (.int w)), some (.sh x), some (.sh d)], rfl, rfl, ?_⟩
    exact call_run (F := F__law_refused) (xs := [x, d, .int w]) rfl (h x hx d hd)
  · rintro δ ⟨o, rfl⟩
    exact ret_run rfl
/-! ### what is handed in -/
def strange (g : Int) : List D := [.non, .str "1", .bl true, .bl false, .lst [.int 1], .tup [.int 1], .dct, .int (-1), .int (-1 - g), .int (-((10 ^ 50) ^ 10) ^ 10)]
theorem v_strange (g : Int) : F__law_strange [.int g] = some (.ol (strange g)) := by
  unfold F__law_strange
  refine run_to rfl (retL_run (sm_run ?_ (show 10 ≤ 1000000 by decide)))
  have p1 : uOp dPow (uC (.int 10)) (uC (.int 50)) [some (.sh (.int g))] = some (.int (10 ^ 50)) := op_run (f := uC (.int 10)) (g := uC (.int 50)) (x := .int 10) (y := .int 50) rfl rfl (pow_ok (by decide +kernel) (by decide +kernel))
  have p2 : uOp dPow2 (uOp dPow (uC (.int 10)) (uC (.int 50))) (uC (.int 10)) [some (.sh (.int g))] = some (.int ((10 ^ 50) ^ 10)) := op_run (x := .int (10 ^ 50)) (y := .int 10) p1 rfl (dI_ok (by decide +kernel) (by congr 1))
  have p3 : uOp dPow2 (uOp dPow2 (uOp dPow (uC (.int 10)) (uC (.int 50))) (uC (.int 10))) (uC (.int 10)) [some (.sh (.int g))] = some (.int (((10 ^ 50) ^ 10) ^ 10)) := op_run (x := .int ((10 ^ 50) ^ 10)) (y := .int 10) p2 rfl (dI_ok (by decide +kernel) (by congr 1))
  have p4 := un_run (op := dNeg) (z := .int (-((10 ^ 50) ^ 10) ^ 10)) p3 rfl
  generalize hb : uUn dNeg (uOp dPow2 (uOp dPow2 (uOp dPow (uC (.int 10)) (uC (.int 50))) (uC (.int 10))) (uC (.int 10))) = big at p4 ⊢
  refine cons_run (f := uC .non) rfl (cons_run (f := uC (.str "1")) rfl (cons_run (f := uC (.bl true)) rfl (cons_run (f := uC (.bl false)) rfl (cons_run (d := .lst [.int 1]) rfl (cons_run (d := .tup [.int 1]) rfl (cons_run (f := uC .dct) rfl (cons_run (d := .int (-1)) rfl (cons_run (d := .int (-1 - g)) rfl (cons_run p4 nil_run)))))))))
theorem w_no {i : Int} (h : i < 1 ∨ 60 < i) : isW (.int i) 1 60 = false := by
  show (decide (1 ≤ i) && decide (i ≤ 60)) = false
  rcases h with h | h
  · rw [decide_eq_false (by omega)]; rfl
  · rw [decide_eq_false (p := i ≤ 60) (by omega), Bool.and_false]
theorem big_neg : -((10 ^ 50) ^ 10) ^ 10 < (0 : Int) := by
  have : (0 : Int) < ((10 ^ 50) ^ 10) ^ 10 := Int.pow_pos (Int.pow_pos (Int.pow_pos (by decide)))
  omega
theorem strange_pl {g : Int} : ∀ d ∈ strange g, plD d = true := by
  intro d hd
  simp only [strange, List.mem_cons, List.not_mem_nil, or_false] at hd
  rcases hd with rfl | rfl | rfl | rfl | rfl | rfl | rfl | rfl | rfl | rfl <;> rfl
/-- not a number from lo on, lo at least 0 -/
theorem strange_no {g lo hi : Int} (hg : 0 ≤ g) (hlo : 0 ≤ lo) : ∀ d ∈ strange g, isW d lo hi = false := by
  have neg : ∀ i : Int, i < 0 → isW (.int i) lo hi = false := fun i h => by
    show (decide (lo ≤ i) && decide (i ≤ hi)) = false
    rw [decide_eq_false (by omega)]; rfl
  intro d hd
  simp only [strange, List.mem_cons, List.not_mem_nil, or_false] at hd
  rcases hd with rfl | rfl | rfl | rfl | rfl | rfl | rfl | rfl | rfl | rfl
  all_goals first | rfl | exact neg _ (by decide) | exact neg _ (by omega) | exact neg _ big_neg
def base13 (g : Int) : List D := [.non, .int 5, .str "12", .tup [.int 1, .int 2], .dct, .lst [], .lst [.int 1, .int 2, .int 3, .int 4, .int 5, .int 6, .int 7], .lst [.int 0], .lst [.int 61], .lst [.int (61 + g)], .lst [.int 2, .int 1], .lst [.int 3, .int 3], .lst [.int 1, .int 2, .int 2]]
def tens : List D := [.int 10, .int 20, .int 30, .int 40, .int 50, .int 60]
def rowN (r : Nat) (x : D) : List D := [.lst [x], .lst [.int 1, x], .lst (tens.take r ++ [x] ++ tens.drop (r + 1))]
def last3 : List D := [.lst [.int 2, .int 1, .int 3], .lst [.int 1, .int 1, .int 2], .lst [.int 10, .int 30, .int 20, .int 40, .int 50, .int 60]]
def last6 : List D := [.lst [.int 10, .int 20, .int 30, .int 40, .int 60, .int 50], .lst [.int 10, .int 20, .int 30, .int 40, .int 50, .int 50], .lst [.int 9, .int 10, .int 11, .int 12, .int 13, .int 61]]
def ones (g : Int) : List D := strange g ++ [.int 0, .int 61, .non]
def noSteps (g : Int) (r : Nat) : List D := ((base13 g ++ (ones g).flatMap (rowN r)) ++ last3) ++ last6
abbrev LN (g : Int) (xs : List D) (o2 o3 : Option SV) : DS := [some (.sh (.int g)), some (.ol xs), o2, o3]
theorem ones_len (g : Int) : (ones g).length = 13 := rfl
theorem rows_len (r : Nat) : ∀ xs : List D, (xs.flatMap (rowN r)).length = 3 * xs.length
  | [] => rfl
  | x :: xs => by rw [List.flatMap_cons, List.length_append, rows_len r xs]; simp only [rowN, List.length_cons, List.length_nil]; omega
theorem nsl (g : Int) (X : List D) : flats (base13 g ++ X) = false := rfl
theorem step_ns {g : Int} {r : Nat} {xs X : List D} {x : D} {o3 : Option SV} (hx : xs = base13 g ++ X) (h6 : r < 6) (hg : g % 6 = (r : Int)) (hl : xs.length ≤ 1000) :
    Nx ((uSeq (uSet 3 (uOp dMod (uVar 0) (uC (.int 6))) ([0] ++ [])) (uSetL 1 (uSm (uCat (uVar 1) (uList (uSm (uCons (uList (uSm (uCons (uVar 2) uNil))) (uCons (uList (uSm (uCons (uC (.int 1)) (uCons (uVar 2) uNil)))) (uCons (uList (uSm (uCat (uList (uSm (uCat (uList (uCut (uList (uSm (uCons (uC (.int 10)) (uCons (uC (.int 20)) (uCons (uC (.int 30)) (uCons (uC (.int 40)) (uCons (uC (.int 50)) (uCons (uC (.int 60)) uNil)))))))) oNone (oSome (uVar 3)))) (uList (uSm (uCons (uVar 2) uNil)))))) (uList (uCut (uList (uSm (uCons (uC (.int 10)) (uCons (uC (.int 20)) (uCons (uC (.int 30)) (uCons (uC (.int 40)) (uCons (uC (.int 50)) (uCons (uC (.int 60)) uNil)))))))) (oSome (uOp dAdd (uVar 3) (uC (.int 1)))) oNone))))) uNil))))))) ([1] ++ (([2] ++ []) ++ (([] ++ ([2] ++ [])) ++ (((([] ++ ([] ++ ([] ++ ([] ++ ([] ++ ([] ++ [])))))) ++ ([2] ++ [])) ++ ([] ++ ([] ++ ([] ++ ([] ++ ([] ++ ([] ++ []))))))) ++ [])))))) 0 (LN g xs (some (.sh x)) o3)) fun δ => δ = LN g (xs ++ rowN r x) (some (.sh x)) (some (.sh (.int r))) := by
  have hm : uOp dMod (uVar 0) (uC (.int 6)) (LN g xs (some (.sh x)) o3) = some (.int (r : Int)) := (mod_run (f := uVar 0) (g := uC (.int 6)) (a := g) (m := 6) rfl rfl (by decide)).trans (by rw [hg])
  refine nx_seq (set_run hm rfl) ?_
  refine nx_of (setL_runG (xs := xs ++ rowN r x) (sm_run (cat_run (xs := xs) (ys := rowN r x) rfl (list_run (sm_run ?_ (show 3 ≤ 1000000 by decide)))) (by rw [List.length_append]; show xs.length + 3 ≤ _; omega)) (by rw [hx, List.append_assoc]; exact nsl _ _) rfl) rfl
  have : r = 0 ∨ r = 1 ∨ r = 2 ∨ r = 3 ∨ r = 4 ∨ r = 5 := by omega
  rcases this with rfl | rfl | rfl | rfl | rfl | rfl <;> rfl
theorem v_no_steps {g : Int} {r : Nat} (h6 : r < 6) (hg : g % 6 = (r : Int)) : F__law_no_steps [.int g] = some (.ol (noSteps g r)) := by
  unfold F__law_no_steps
  refine run_to rfl (seq_go (δ1 := LN g (base13 g) none none) (setL_runG (xs := base13 g) (sm_run rfl (show 13 ≤ 1000000 by decide)) rfl rfl) (seq_nx ?_))
  refine nx_for (xs := ones g) (fun j δ => ∃ o2 o3, δ = LN g (base13 g ++ ((ones g).take j).flatMap (rowN r)) o2 o3) (as_run (list_run (sm_run (cat_run (list_run (callL_run (F := F__law_strange) (xs := [.int g]) rfl (v_strange g))) rfl) (show 13 ≤ 1000000 by decide)))) ⟨none, none, by rw [List.take_zero, List.flatMap_nil, List.append_nil]; rfl⟩ ?_ ?_
  · rintro j x δ hx ⟨o2, o3, rfl⟩
    have hj : j < 13 := by
      have := (List.getElem?_eq_some_iff.mp hx).1
      rw [ones_len] at this; exact this
    refine ⟨LN g (base13 g ++ ((ones g).take j).flatMap (rowN r)) (some (.sh x)) o3, rfl, nx_imp (step_ns rfl h6 hg (by rw [List.length_append, rows_len, List.length_take, ones_len]; show 13 + _ ≤ _; omega)) ?_⟩
    rintro δ rfl
    refine ⟨some (.sh x), some (.sh (.int r)), ?_⟩
    rw [List.take_add_one, hx, List.flatMap_append, ← List.append_assoc]
    rfl
  · rintro δ ⟨o2, o3, rfl⟩
    rw [show (ones g).take (ones g).length = ones g from List.take_length]
    have hl : (base13 g ++ (ones g).flatMap (rowN r)).length = 52 := by rw [List.length_append, rows_len, ones_len]; rfl
    refine seq_go (δ1 := LN g ((base13 g ++ (ones g).flatMap (rowN r)) ++ last3) o2 o3) (setL_runG (xs := (base13 g ++ (ones g).flatMap (rowN r)) ++ last3) (sm_run (cat_run (ys := last3) rfl rfl) (by rw [List.length_append, hl]; show 52 + 3 ≤ _; omega)) (by rw [List.append_assoc]; exact nsl _ _) ?_) ?_
    · cases o2 with
      | none => cases o3 <;> rfl
      | some a => cases o3 <;> rfl
    · refine retL_run (sm_run (cat_run (ys := last6) rfl rfl) ?_)
      unfold noSteps
      rw [List.length_append, List.length_append, hl]
      show 52 + 3 + 3 ≤ _
      omega
/-! ### none of them is a list of steps -/
theorem no_item {xs : List D} {x : D} (h1 : 1 ≤ xs.length) (h2 : xs.length ≤ 6) (hp : ∀ y ∈ xs, plD y = true) (hx : x ∈ xs) (hb : isW x 1 60 = false) : F_are_steps_k14 [.lst xs] = some (.sh (.bl false)) :=
  s_item h1 h2 hp (List.all_eq_false.mpr ⟨x, hx, by rw [hb]; decide⟩)
theorem ones_no {g : Int} (hg : 0 ≤ g) {x : D} (hx : x ∈ ones g) : plD x = true ∧ isW x 1 60 = false := by
  rcases List.mem_append.mp hx with h | h
  · exact ⟨strange_pl x h, strange_no hg (by decide) x h⟩
  · simp only [List.mem_cons, List.not_mem_nil, or_false] at h
    rcases h with rfl | rfl | rfl <;> exact ⟨rfl, rfl⟩
theorem row_no {r : Nat} {x : D} (h6 : r < 6) (hp : plD x = true) (hb : isW x 1 60 = false) : ∀ d ∈ rowN r x, F_are_steps_k14 [d] = some (.sh (.bl false)) := by
  intro d hd
  simp only [rowN, List.mem_cons, List.not_mem_nil, or_false] at hd
  have tp : ∀ y ∈ tens, plD y = true := by
    intro y hy
    simp only [tens, List.mem_cons, List.not_mem_nil, or_false] at hy
    rcases hy with rfl | rfl | rfl | rfl | rfl | rfl <;> rfl
  rcases hd with rfl | rfl | rfl
  · exact no_item (Nat.le_refl 1) (show 1 ≤ 6 by decide) (fun y hy => by rw [List.mem_singleton.mp hy]; exact hp) List.mem_cons_self hb
  · exact no_item (x := x) (by show 1 ≤ 2; decide) (by show 2 ≤ 6; decide) (fun y hy => by
      simp only [List.mem_cons, List.not_mem_nil, or_false] at hy
      rcases hy with rfl | rfl
      · rfl
      · exact hp) (List.mem_cons_of_mem _ List.mem_cons_self) hb
  · refine no_item (x := x) ?_ ?_ (fun y hy => ?_) ?_ hb
    · simp only [List.length_append, List.length_cons, List.length_nil]; omega
    · simp only [List.length_append, List.length_cons, List.length_nil, List.length_take, List.length_drop, tens]; omega
    · rcases List.mem_append.mp hy with hy | hy
      · rcases List.mem_append.mp hy with hy | hy
        · exact tp y (List.mem_of_mem_take hy)
        · rw [List.mem_singleton.mp hy]; exact hp
      · exact tp y (List.mem_of_mem_drop hy)
    · exact List.mem_append_left _ (List.mem_append_right _ List.mem_cons_self)
theorem no_steps {g : Int} {r : Nat} (hg : 0 ≤ g) (h6 : r < 6) : ∀ d ∈ noSteps g r, F_are_steps_k14 [d] = some (.sh (.bl false)) := by
  intro d hd
  rcases List.mem_append.mp hd with hd | hd
  · rcases List.mem_append.mp hd with hd | hd
    · rcases List.mem_append.mp hd with hd | hd
      · simp only [base13, List.mem_cons, List.not_mem_nil, or_false] at hd
        rcases hd with rfl | rfl | rfl | rfl | rfl | rfl | rfl | rfl | rfl | rfl | rfl | rfl | rfl
        · exact s_kind rfl (fun _ e => by cases e) (fun _ e => by cases e)
        · exact s_kind rfl (fun _ e => by cases e) (fun _ e => by cases e)
        · exact s_kind rfl (fun _ e => by cases e) (fun _ e => by cases e)
        · exact s_kind rfl (fun _ e => by cases e) (fun _ e => by cases e)
        · exact s_kind rfl (fun _ e => by cases e) (fun _ e => by cases e)
        · exact s_len rfl
        · exact s_len rfl
        · exact no_item (x := .int 0) (by decide) (by decide) (fun y hy => by rw [List.mem_singleton.mp hy]; rfl) List.mem_cons_self rfl
        · exact no_item (x := .int 61) (by decide) (by decide) (fun y hy => by rw [List.mem_singleton.mp hy]; rfl) List.mem_cons_self rfl
        · exact no_item (x := .int (61 + g)) (by show 1 ≤ 1; decide) (by show 1 ≤ 6; decide) (fun y hy => by rw [List.mem_singleton.mp hy]; rfl) List.mem_cons_self (w_no (by omega))
        · kernel_rfl
        · kernel_rfl
        · kernel_rfl
      · obtain ⟨x, hx, hd⟩ := List.mem_flatMap.mp hd
        obtain ⟨h1, h2⟩ := ones_no hg hx
        exact row_no h6 h1 h2 d hd
    · simp only [last3, List.mem_cons, List.not_mem_nil, or_false] at hd
      rcases hd with rfl | rfl | rfl <;> kernel_rfl
  · simp only [last6, List.mem_cons, List.not_mem_nil, or_false] at hd
    rcases hd with rfl | rfl | rfl <;> kernel_rfl
end U
end
section
set_option Elab.async false
set_option linter.all false
set_option maxRecDepth 100000
set_option maxHeartbeats 1000000
/-! The law of refused rings. -/
namespace U
open PySem
def exs12 : List D := [.ex 0, .ex 1, .ex 2, .ex 3, .ex 4, .ex 5, .ex 6, .ex 7, .ex 8, .ex 9, .ex 10, .ex 11]
theorem L_steps {d : D} (hs : F_are_steps_k14 [d] = some (.sh (.bl false))) : ∀ e ∈ exs12, F__law_refused [e, d, .int 1] = some (.sh (.bl true)) := by
  intro e he
  simp only [exs12, List.mem_cons, List.not_mem_nil, or_false] at he
  rcases he with rfl | rfl | rfl | rfl | rfl | rfl | rfl | rfl | rfl | rfl | rfl | rfl
  · exact ref1 ((show RL_14 0 [d] = R_told [.int 5, d, .non, .non] from rfl).trans (d_told.trans (t_steps rfl hs)))
  · exact ref1 ((show RL_14 1 [d] = R_nearest [.int 1, d, .non] from rfl).trans (d_nearest.trans (t_steps rfl hs)))
  · exact ref1 ((show RL_14 2 [d] = R_far [.int 60, d] from rfl).trans (far_steps rfl hs))
  · exact ref1 ((show RL_14 3 [d] = R_how_many [.int 5, d, .non, .non, .non] from rfl).trans (d_how.trans (t_steps rfl hs)))
  · exact ref1 ((show RL_14 4 [d] = R_way_by_k14 [.int 9, d, .int 1, .int 1, .int 1, .int 1] from rfl).trans (d_way.trans (t_steps rfl hs)))
  · exact ref1 ((show RL_14 5 [d] = R_number_of [.int 5, d, .non] from rfl).trans (number_steps rfl hs))
  · exact ref1 ((show RL_14 6 [d] = R_after [.int 9, d, .non, .non] from rfl).trans (d_after.trans (t_steps rfl hs)))
  · exact ref1 ((show RL_14 7 [d] = R_every [.int 5, d] from rfl).trans (every_steps rfl hs))
  · exact ref1 ((show RL_14 8 [d] = R_added [.int 9, d] from rfl).trans (added_steps rfl hs))
  · exact ref1 ((show RL_14 9 [d] = R_twos [.int 1, d] from rfl).trans (d_twos.trans (d_after.trans (t_steps rfl hs))))
  · exact ref1 ((show RL_14 10 [d] = R_judged [.int 5, d, .non, .non] from rfl).trans (d_judged.trans (t_steps rfl hs)))
  · exact ref1 ((show RL_14 11 [d] = R_Walker [.int 9, d, .non] from rfl).trans (d_walker.trans (t_steps rfl hs)))
theorem ok1 : F_are_steps_k14 [.lst [.int 1]] = some (.sh (.bl true)) := by kernel_rfl
def exs13 : List D := [.ex 13, .ex 14, .ex 15, .ex 16, .ex 17, .ex 18, .ex 19, .ex 20, .ex 21, .ex 22, .ex 23, .ex 24, .ex 25]
theorem L_places {d : D} (hp : plD d = true) (hb : isW d 0 4 = false) : ∀ e ∈ exs13, F__law_refused [e, d, .int 2] = some (.sh (.bl true)) := by
  intro e he
  have p1 : ∀ {ps : List D}, R_check_told [.int 5, .lst [.int 1], .lst (d :: ps)] = eP := fun {ps} => t_place1 rfl ok1 hp hb
  have p2 : ∀ {i : Int} {ps : List D}, isW (.int i) 0 4 = true → R_check_told [.int 5, .lst [.int 1], .lst (.int i :: d :: ps)] = eP := fun {i ps} h => t_place2 rfl ok1 rfl h hp hb
  simp only [exs13, List.mem_cons, List.not_mem_nil, or_false] at he
  rcases he with rfl | rfl | rfl | rfl | rfl | rfl | rfl | rfl | rfl | rfl | rfl | rfl | rfl
  · exact ref2 ((show RL_14 13 [d] = R_told [.int 5, .lst [.int 1], d, .non] from rfl).trans (d_told.trans p1))
  · exact ref2 ((show RL_14 14 [d] = R_told [.int 5, .lst [.int 1], .int 4, d] from rfl).trans (d_told.trans (p2 rfl)))
  · exact ref2 ((show RL_14 15 [d] = R_nearest [.int 5, .lst [.int 1], d] from rfl).trans (d_nearest.trans p1))
  · exact ref2 ((show RL_14 16 [d] = R_how_many [.int 5, .lst [.int 1], d, .int 9, .non] from rfl).trans (d_how.trans p1))
  · exact ref2 ((show RL_14 17 [d] = R_how_many [.int 5, .lst [.int 1], .int 0, d, .non] from rfl).trans (d_how.trans (p2 rfl)))
  · exact ref2 ((show RL_14 18 [d] = R_way_by_k14 [.int 5, .lst [.int 1], d, .int 9, .int 1, .int 1] from rfl).trans (d_way.trans p1))
  · exact ref2 ((show RL_14 19 [d] = R_way_by_k14 [.int 5, .lst [.int 1], .int 0, d, .non, .non] from rfl).trans (d_way.trans (p2 rfl)))
  · exact ref2 ((show RL_14 20 [d] = R_after [.int 5, .lst [.int 1], d, .non] from rfl).trans (d_after.trans p1))
  · exact ref2 ((show RL_14 21 [d] = R_judged [.int 5, .lst [.int 1], d, .non] from rfl).trans (d_judged.trans p1))
  · exact ref2 ((show RL_14 22 [d] = R_Walker [.int 5, .lst [.int 1], d] from rfl).trans (d_walker.trans p1))
  · exact ref2 ((show RL_14 23 [d] = R_told [.int 5, .lst [.int 1], d, .int 4] from rfl).trans (d_told.trans p1))
  · exact ref2 ((show RL_14 24 [d] = R_how_many [.int 5, .lst [.int 1], d, .int 4, .int 3] from rfl).trans (d_how.trans p1))
  · exact ref2 ((show RL_14 25 [d] = R_way_by_k14 [.int 5, .lst [.int 1], d, .int 4, .int 4, .int 0] from rfl).trans (d_way.trans p1))
def exsR : List D := [.ex 26, .ex 27, .ex 28, .ex 29, .ex 30, .ex 31, .ex 32, .ex 33, .ex 34, .ex 35, .ex 36, .ex 37, .ex 38]
theorem isW_8 {d : D} (hb : isW d 1 60 = false) : isW d 1 8 = false := by
  cases d with
  | int i =>
    have hb : (decide (1 ≤ i) && decide (i ≤ 60)) = false := hb
    show (decide (1 ≤ i) && decide (i ≤ 8)) = false
    rw [Bool.and_eq_false_iff, decide_eq_false_iff_not, decide_eq_false_iff_not] at hb ⊢
    omega
  | _ => rfl
theorem L_rings {d : D} (hp : plD d = true) (hb : isW d 1 60 = false) : ∀ e ∈ exsR, F__law_refused [e, d, .int 0] = some (.sh (.bl true)) := by
  intro e he
  have t : ∀ {b c : D}, R_check_told [d, b, c] = eR := t_ring hp hb
  simp only [exsR, List.mem_cons, List.not_mem_nil, or_false] at he
  rcases he with rfl | rfl | rfl | rfl | rfl | rfl | rfl | rfl | rfl | rfl | rfl | rfl | rfl
  · exact ref0 ((show RL_14 26 [d] = R_told [d, .non, .non, .non] from rfl).trans (d_told.trans t))
  · exact ref0 ((show RL_14 27 [d] = R_nearest [d, .non, .non] from rfl).trans (d_nearest.trans t))
  · exact ref0 ((show RL_14 28 [d] = R_far [d, .non] from rfl).trans (far_ring hp hb))
  · exact ref0 ((show RL_14 29 [d] = R_how_many [d, .non, .non, .non, .non] from rfl).trans (d_how.trans t))
  · exact ref0 ((show RL_14 30 [d] = R_way_by_k14 [d, .int 1, .int 1, .int 1, .int 1, .int 1] from rfl).trans (d_way.trans t))
  · exact ref0 ((show RL_14 31 [d] = R_number_of [d, .non, .non] from rfl).trans (number_ring hp hb))
  · exact ref0 ((show RL_14 32 [d] = R_after [d, .non, .non, .non] from rfl).trans (d_after.trans t))
  · exact ref0 ((show RL_14 33 [d] = R_every [d, .non] from rfl).trans (every_ring hp hb))
  · exact ref0 ((show RL_14 34 [d] = R_added [d, .non] from rfl).trans (added_ring hp hb))
  · exact ref0 ((show RL_14 35 [d] = R_twos [d, .non] from rfl).trans (d_twos.trans (d_after.trans t)))
  · exact ref0 ((show RL_14 36 [d] = R_told_back [d, .non] from rfl).trans (d_back.trans (r_small hp (isW_8 hb))))
  · exact ref0 ((show RL_14 37 [d] = R_judged [d, .non, .non, .non] from rfl).trans (d_judged.trans t))
  · exact ref0 ((show RL_14 38 [d] = R_Walker [d, .non, .non] from rfl).trans (d_walker.trans t))
abbrev LS (g : Int) (es : List D) : DS := [some (.sh (.int g)), some (.ol es)]
theorem six (g : Int) : ∃ r : Nat, r < 6 ∧ g % 6 = (r : Int) := ⟨(g % 6).toNat, by omega, by omega⟩
theorem v_steps_right {g : Int} (hg : 0 ≤ g) : F__law_steps_right [.int g] = some (.sh (.bl true)) := by
  obtain ⟨r, h6, hr⟩ := six g
  unfold F__law_steps_right
  refine run_to rfl (seq_go (δ1 := LS g [.ex 0, .ex 1, .ex 2]) rfl (seq_go (δ1 := LS g [.ex 0, .ex 1, .ex 2, .ex 3, .ex 4]) rfl (seq_go (δ1 := LS g [.ex 0, .ex 1, .ex 2, .ex 3, .ex 4, .ex 5, .ex 6]) rfl (seq_go (δ1 := LS g [.ex 0, .ex 1, .ex 2, .ex 3, .ex 4, .ex 5, .ex 6, .ex 7, .ex 8, .ex 9]) rfl (seq_go (δ1 := LS g exs12) rfl (seq_go (δ1 := LS g exs12) (skip_run ?_) (seq_go (δ1 := LS g exs12) (skip_run ?_) (ret_run rfl))))))))
  · exact not_run (b := true) (B_run (call_run (F := F__law_all_k14) (xs := [.lst [.ex 12], .lst [.lst [.int 1, .int 2, .int 3, .int 4, .int 5, .int 6]], .int 1]) (s := .sh (.bl true)) rfl (by kernel_rfl)))
  · refine not_run (b := true) (B_run (call_run (F := F__law_all_k14) (xs := [.lst exs12, .lst (noSteps g r), .int 1]) (s := .sh (.bl true)) (cons_run rfl (cons_run (list_run (callL_run (F := F__law_no_steps) (xs := [.int g]) rfl (v_no_steps h6 hr))) rfl)) (v_all14 ?_ fun e he d hd => L_steps (no_steps hg h6 d hd) e he)))
    unfold noSteps
    rw [List.length_append, List.length_append, List.length_append, rows_len, ones_len]
    show 13 + 3 * 13 + 3 + 3 ≤ 1000
    omega
theorem v_places_right {g : Int} (hg : 0 ≤ g) : F__law_places_right [.int g] = some (.sh (.bl true)) := by
  unfold F__law_places_right
  refine run_to rfl (seq_go (δ1 := LS g [.ex 13, .ex 14, .ex 15]) rfl (seq_go (δ1 := LS g [.ex 13, .ex 14, .ex 15, .ex 16, .ex 17]) rfl (seq_go (δ1 := LS g [.ex 13, .ex 14, .ex 15, .ex 16, .ex 17, .ex 18, .ex 19]) rfl (seq_go (δ1 := LS g [.ex 13, .ex 14, .ex 15, .ex 16, .ex 17, .ex 18, .ex 19, .ex 20, .ex 21]) rfl (seq_go (δ1 := LS g [.ex 13, .ex 14, .ex 15, .ex 16, .ex 17, .ex 18, .ex 19, .ex 20, .ex 21, .ex 22]) rfl (seq_go (δ1 := LS g [.ex 13, .ex 14, .ex 15, .ex 16, .ex 17, .ex 18, .ex 19, .ex 20, .ex 21, .ex 22, .ex 23, .ex 24]) rfl (seq_go (δ1 := LS g exs13) rfl (seq_go (δ1 := LS g exs13) (skip_run ?_) (ret_run rfl)))))))))
  refine not_run (b := true) (B_run (call_run (F := F__law_all_k14) (xs := [.lst exs13, .lst (strange g ++ [.int 5, .int (5 + g)]), .int 2]) (s := .sh (.bl true)) (cons_run rfl (cons_run (list_run (sm_run (cat_run (list_run (callL_run (F := F__law_strange) (xs := [.int g]) rfl (v_strange g))) rfl) (show 12 ≤ 1000000 by decide))) rfl)) (v_all14 (show 12 ≤ 1000 by decide) fun e he d hd => ?_)))
  have no4 : ∀ i : Int, 4 < i → isW (.int i) 0 4 = false := fun i h => by
    show (decide (0 ≤ i) && decide (i ≤ 4)) = false
    rw [decide_eq_false (p := i ≤ 4) (by omega), Bool.and_false]
  rcases List.mem_append.mp hd with h | h
  · exact L_places (strange_pl d h) (strange_no hg (by decide) d h) e he
  · simp only [List.mem_cons, List.not_mem_nil, or_false] at h
    rcases h with rfl | rfl
    · exact L_places rfl (no4 _ (by decide)) e he
    · exact L_places rfl (no4 _ (by omega)) e he
abbrev L4 (ns : List Int) (c g : Int) (es : List D) : DS := [some (.sh (.frz (ns.map D.int))), some (.sh (.int c)), some (.sh (.int g)), some (.ol es)]
end U
namespace U.K14
theorem law_true (ns : List Int) (hn : ns.length ≤ 63) : F_law_k14 [.frz (ns.map .int)] = some (.sh (.bl true)) := by
  unfold F_law_k14
  have hsrc : uAs (uList (uSm (uCat (uList (uSm (uCons (uC (.int 0)) uNil))) (uList (uCutF (uVar 0) oNone (oSome (uC (.int 2)))))))) (startD 4 [.frz (ns.map D.int)]) = some ((0 :: cutD ns none (some 2)).map D.int) := by
    refine as_run (list_run (sm_run (cat_run (xs := [.int 0]) (ys := (cutD ns none (some 2)).map D.int) rfl (list_run ?_)) ?_))
    · show some (cutD (ns.map D.int) none (some 2)) = _
      unfold cutD
      rw [List.length_map, List.map_take, List.map_drop]
    · rw [List.length_map, List.length_cons]
      unfold cutD
      rw [List.length_take, List.length_drop]
      omega
  refine run_to rfl (seq_nx (nx_each (xs := (0 :: cutD ns none (some 2)).map D.int) (fun δ => ∃ o1 o2 o3, δ = [some (.sh (.frz (ns.map D.int))), o1, o2, o3]) hsrc ⟨none, none, none, rfl⟩ ?_ ?_))
  · rintro x hx δ ⟨o1, o2, o3, rfl⟩
    obtain ⟨c, _, rfl⟩ := List.mem_map.mp hx
    refine ⟨[some (.sh (.frz (ns.map D.int))), some (.sh (.int c)), o2, o3], rfl, ?_⟩
    have hg : 0 ≤ (if c < 0 then -c else c) % 10 ^ 20 := Int.emod_nonneg _ (by decide)
    refine nx_seq (δ1 := [some (.sh (.frz (ns.map D.int))), some (.sh (.int c)), some (.sh (.int ((if c < 0 then -c else c) % 10 ^ 20))), o3]) (set_run (mod_run (m := 10 ^ 20) rfl (op_run (f := uC (.int 10)) (g := uC (.int 20)) (x := .int 10) (y := .int 20) rfl rfl (pow_ok (by decide +kernel) (by decide +kernel))) (by decide)) rfl) ?_
    generalize (if c < 0 then -c else c) % 10 ^ 20 = g at hg
    refine nx_seq (δ1 := L4 ns c g [.ex 26, .ex 27, .ex 28]) rfl (nx_seq (δ1 := L4 ns c g [.ex 26, .ex 27, .ex 28, .ex 29, .ex 30]) rfl (nx_seq (δ1 := L4 ns c g [.ex 26, .ex 27, .ex 28, .ex 29, .ex 30, .ex 31, .ex 32]) rfl (nx_seq (δ1 := L4 ns c g [.ex 26, .ex 27, .ex 28, .ex 29, .ex 30, .ex 31, .ex 32, .ex 33, .ex 34, .ex 35]) rfl (nx_seq (δ1 := L4 ns c g [.ex 26, .ex 27, .ex 28, .ex 29, .ex 30, .ex 31, .ex 32, .ex 33, .ex 34, .ex 35, .ex 36, .ex 37]) rfl (nx_seq (δ1 := L4 ns c g exsR) rfl ?_)))))
    refine nx_seq (δ1 := L4 ns c g exsR) (skip_run ?_) (nx_seq (δ1 := L4 ns c g exsR) (skip_run ?_) (nx_skip ?_ ⟨_, _, _, rfl⟩))
    · refine not_run (b := true) (B_run (call_run (F := F__law_all_k14) (xs := [.lst exsR, .lst (strange g ++ [.int 0, .int 61, .int (61 + g)]), .int 0]) (s := .sh (.bl true)) (cons_run rfl (cons_run (list_run (sm_run (cat_run (list_run (callL_run (F := F__law_strange) (xs := [.int g]) rfl (v_strange g))) rfl) (show 13 ≤ 1000000 by decide))) rfl)) (v_all14 (show 13 ≤ 1000 by decide) fun e he d hd => ?_)))
      rcases List.mem_append.mp hd with h | h
      · exact L_rings (strange_pl d h) (strange_no hg (by decide) d h) e he
      · simp only [List.mem_cons, List.not_mem_nil, or_false] at h
        rcases h with rfl | rfl | rfl
        · exact L_rings rfl rfl e he
        · exact L_rings rfl rfl e he
        · exact L_rings rfl (w_no (by omega)) e he
    · exact not_run (b := true) (B_run (call_run (F := F__law_all_k14) (xs := [.lst [.ex 39], .lst [.int 9, .int 60], .int 0]) (s := .sh (.bl true)) rfl (by kernel_rfl)))
    · refine (or_f (not_run (b := true) (B_run (call_run (F := F__law_steps_right) (xs := [.int g]) (s := .sh (.bl true)) rfl (v_steps_right hg))))).trans ?_
      exact not_run (b := true) (B_run (call_run (F := F__law_places_right) (xs := [.int g]) (s := .sh (.bl true)) rfl (v_places_right hg)))
  · rintro δ ⟨o1, o2, o3, rfl⟩
    exact seq_go (skip_run (B_run (b := false) (by kernel_rfl))) (ret_run ((andV_run (b := true) (b2 := true) (by kernel_rfl) fun _ => by kernel_rfl).trans rfl))
end U.K14
end
set_option Elab.async false
set_option linter.all false
open PySem PySem.W PyProof.Rows
def PySem.W.Fast.tw18182362289177972487 : Unit := ()
def PySem.W.Fast.tw9602919050139124977 : Unit := ()
def PySem.W.Fast.tw2248698699988359548 : Unit := ()
def PySem.W.Fast.tw17253841329779648055 : Unit := ()
def PySem.W.Fast.tw3786044749691221156 : Unit := ()
def PySem.W.Fast.tw11138700480210643469 : Unit := ()
def PySem.W.Fast.tw17094802530405700648 : Unit := ()
def PySem.W.Fast.tw17749854127634789132 : Unit := ()
def PySem.W.Fast.tw10186792946755753651 : Unit := ()
def PySem.W.Fast.tw9138666623486278905 : Unit := ()
def PySem.W.Fast.tw17156337752679015777 : Unit := ()
def PySem.W.Fast.tw15571746345377671153 : Unit := ()
def PySem.W.Fast.tw5483913149304655700 : Unit := ()
def PySem.W.Fast.tw9663168664956313700 : Unit := ()
def PySem.W.Fast.tw3637141036262862888 : Unit := ()
def PySem.W.Fast.tw15971782407487831673 : Unit := ()
def PySem.W.Fast.tw12458511711734576031 : Unit := ()
def PySem.W.Fast.tw3227044896993914738 : Unit := ()
def PySem.W.Fast.tw2276739402651640932 : Unit := ()
def PySem.W.Fast.tw630845017690440241 : Unit := ()
def PySem.W.Fast.tw7830578990250458021 : Unit := ()
def PySem.W.Fast.tw16189241109074104601 : Unit := ()
def PySem.W.Fast.tw11395084436497310616 : Unit := ()
def PySem.W.Fast.tw9475889340548381316 : Unit := ()
def PySem.W.Fast.tw13621653263889095188 : Unit := ()
def PySem.W.Fast.tw6046691261420752005 : Unit := ()
def PySem.W.Fast.tw9415293641024661841 : Unit := ()
set_option maxRecDepth 100000 in
set_option maxHeartbeats 0 in
theorem PySem.Challenge.cw_roundsteps_k14_refused_rings_holds : PySem.Challenge.rw_roundsteps_k14_refused_rings.Holds := by
  w_on; o_law; k_head; (case hw => w_witness2)
  k_fill
  refine U.walkTL (l := PySem.Challenge.rw_roundsteps_k14_refused_rings) (n := 63) (k := 13) (x := "_law_script") (sp := fun K gs gl => U.spLL U.F_law_k14 K gs gl) ["is_rising", "are_steps"] ["_law_steps_right", "_law_places_right", "law"] rfl (by decide) rfl ⟨rfl, by decide, by decide, rfl⟩ (fun w h Y => PySem.W.km_in_of Y) ?D ?wL ?K ?wA ?F ?S
  case D => exact U.names_of (by kernel_rfl)
  case wL => exact U.names_of (by kernel_rfl)
  case K => exact fun P => by kernel_rfl
  case wA => exact fun P => by kernel_rfl
  case F =>
    intro w mg fa h KX Gn hmg
    refine U.K14.law_F ?T hmg
    constructor
    · refine' U.def_mk KX Gn (fun _ _ _ _ _ _ us hl => match us, hl with | [_], _ => rfl) ?a ?l ?c ?k; (case a => k_is); (case l => k_is); (case c => k_is); (case k => k_is)
    · refine' U.def_mk KX Gn (fun _ _ _ _ _ _ us hl => match us, hl with | [_, _, _], _ => rfl) ?a ?l ?c ?k; (case a => k_is); (case l => k_is); (case c => k_is); (case k => k_is)
    · refine' U.def_mk KX Gn (fun _ _ _ _ _ _ us hl => match us, hl with | [_], _ => rfl) ?a ?l ?c ?k; (case a => k_is); (case l => k_is); (case c => k_is); (case k => k_is)
    · refine' U.def_mk KX Gn (fun _ _ _ _ _ _ us hl => match us, hl with | [_], _ => rfl) ?a ?l ?c ?k; (case a => k_is); (case l => k_is); (case c => k_is); (case k => k_is)
    · refine' U.def_mk KX Gn (fun _ _ _ _ _ _ us hl => match us, hl with | [_], _ => rfl) ?a ?l ?c ?k; (case a => k_is); (case l => k_is); (case c => k_is); (case k => k_is)
    · refine' U.def_mk KX Gn (fun _ _ _ _ _ _ us hl => match us, hl with | [_, _], _ => rfl) ?a ?l ?c ?k; (case a => k_is); (case l => k_is); (case c => k_is); (case k => k_is)
    · refine' U.def_mk KX Gn (fun _ _ _ _ _ _ us hl => match us, hl with | [_, _], _ => rfl) ?a ?l ?c ?k; (case a => k_is); (case l => k_is); (case c => k_is); (case k => k_is)
    · refine' U.def_mk KX Gn (fun _ _ _ _ _ _ us hl => match us, hl with | [_], _ => rfl) ?a ?l ?c ?k; (case a => k_is); (case l => k_is); (case c => k_is); (case k => k_is)
    · refine' U.def_mk KX Gn (fun _ _ _ _ _ _ us hl => match us, hl with | [_], _ => rfl) ?a ?l ?c ?k; (case a => k_is); (case l => k_is); (case c => k_is); (case k => k_is)
    · refine' U.def_mk KX Gn (fun _ _ _ _ _ _ us hl => match us, hl with | [_, _], _ => rfl) ?a ?l ?c ?k; (case a => k_is); (case l => k_is); (case c => k_is); (case k => k_is)
    · refine' U.def_mk KX Gn (fun _ _ _ _ _ _ us hl => match us, hl with | [_, _, _], _ => rfl) ?a ?l ?c ?k; (case a => k_is); (case l => k_is); (case c => k_is); (case k => k_is)
    · refine' U.def_mk KX Gn (fun _ _ _ _ _ _ us hl => match us, hl with | [_, _, _], _ => rfl) ?a ?l ?c ?k; (case a => k_is); (case l => k_is); (case c => k_is); (case k => k_is)
    · refine' U.def_mk KX Gn (fun _ _ _ _ _ _ us hl => match us, hl with | [_], _ => rfl) ?a ?l ?c ?k; (case a => k_is); (case l => k_is); (case c => k_is); (case k => k_is)
    · refine' U.def_mk KX Gn (fun _ _ _ _ _ _ us hl => match us, hl with | [_], _ => rfl) ?a ?l ?c ?k; (case a => k_is); (case l => k_is); (case c => k_is); (case k => k_is)
    · refine' U.kok2_mk KX Gn (fun _ _ _ _ _ _ us hl => match us, hl with | [_, _, _], _ => rfl) ?aC ?a1 ?i1 ?l1 ?c1 ?k1 ?pg ?hd ?po ?sa ?mk ?kc ?na; (case aC => k_is); (case a1 => k_is); (case i1 => k_is); (case l1 => k_is); (case c1 => k_is); (case k1 => k_is); (case pg => k_is); (case hd => k_is); (case po => k_is); (case sa => k_is); (case mk => k_is); (case kc => k_is)
      case na => intro y hy; simp only [U.wFl, U.cFl, List.mem_cons, List.not_mem_nil, or_false] at hy; rcases hy with rfl | rfl <;> k_is
    · refine' U.kok_mk KX Gn (fun _ _ _ _ _ _ us hl => match us, hl with | [_, _], _ => rfl) ?aC ?a1 ?i1 ?l1 ?c1 ?k1 ?pg ?hd ?po ?sa ?mk ?kc ?na; (case aC => k_is); (case a1 => k_is); (case i1 => k_is); (case l1 => k_is); (case c1 => k_is); (case k1 => k_is); (case pg => k_is); (case hd => k_is); (case po => k_is); (case sa => k_is); (case mk => k_is); (case kc => k_is)
      case na => intro y hy; simp only [List.mem_cons, List.not_mem_nil, or_false] at hy; obtain rfl := hy; k_is
    · refine' U.def_mk KX Gn (fun _ _ _ _ _ _ us hl => match us, hl with | [_, _, _, _], _ => rfl) ?a ?l ?c ?k; (case a => k_is); (case l => k_is); (case c => k_is); (case k => k_is)
    · refine' U.def_mk KX Gn (fun _ _ _ _ _ _ us hl => match us, hl with | [_, _, _], _ => rfl) ?a ?l ?c ?k; (case a => k_is); (case l => k_is); (case c => k_is); (case k => k_is)
    · refine' U.def_mk KX Gn (fun _ _ _ _ _ _ us hl => match us, hl with | [_, _, _, _], _ => rfl) ?a ?l ?c ?k; (case a => k_is); (case l => k_is); (case c => k_is); (case k => k_is)
    · refine' U.def_mk KX Gn (fun _ _ _ _ _ _ us hl => match us, hl with | [_, _, _, _], _ => rfl) ?a ?l ?c ?k; (case a => k_is); (case l => k_is); (case c => k_is); (case k => k_is)
    · refine' U.def_mk KX Gn (fun _ _ _ _ _ _ us hl => match us, hl with | [_], _ => rfl) ?a ?l ?c ?k; (case a => k_is); (case l => k_is); (case c => k_is); (case k => k_is)
    · refine' U.def_mk KX Gn (fun _ _ _ _ _ _ us hl => match us, hl with | [_, _, _, _], _ => rfl) ?a ?l ?c ?k; (case a => k_is); (case l => k_is); (case c => k_is); (case k => k_is)
    · refine' U.def_mk KX Gn (fun _ _ _ _ _ _ us hl => match us, hl with | [_, _, _], _ => rfl) ?a ?l ?c ?k; (case a => k_is); (case l => k_is); (case c => k_is); (case k => k_is)
    · refine' U.def_mk KX Gn (fun _ _ _ _ _ _ us hl => match us, hl with | [_, _], _ => rfl) ?a ?l ?c ?k; (case a => k_is); (case l => k_is); (case c => k_is); (case k => k_is)
    · refine' U.def_mk KX Gn (fun _ _ _ _ _ _ us hl => match us, hl with | [_, _, _, _], _ => rfl) ?a ?l ?c ?k; (case a => k_is); (case l => k_is); (case c => k_is); (case k => k_is)
    · refine' U.def_mk KX Gn (fun _ _ _ _ _ _ us hl => match us, hl with | [_, _], _ => rfl) ?a ?l ?c ?k; (case a => k_is); (case l => k_is); (case c => k_is); (case k => k_is)
    · refine' U.def_mk KX Gn (fun _ _ _ _ _ _ us hl => match us, hl with | [_], _ => rfl) ?a ?l ?c ?k; (case a => k_is); (case l => k_is); (case c => k_is); (case k => k_is)
    · refine' U.def_mk KX Gn (fun _ _ _ _ _ _ us hl => match us, hl with | [_], _ => rfl) ?a ?l ?c ?k; (case a => k_is); (case l => k_is); (case c => k_is); (case k => k_is)
    · refine' U.def_mk KX Gn (fun _ _ _ _ _ _ us hl => match us, hl with | [_, _], _ => rfl) ?a ?l ?c ?k; (case a => k_is); (case l => k_is); (case c => k_is); (case k => k_is)
    · refine' U.def_mk KX Gn (fun _ _ _ _ _ _ us hl => match us, hl with | [_, _], _ => rfl) ?a ?l ?c ?k; (case a => k_is); (case l => k_is); (case c => k_is); (case k => k_is)
    · refine' U.def_mk KX Gn (fun _ _ _ _ _ _ us hl => match us, hl with | [_, _], _ => rfl) ?a ?l ?c ?k; (case a => k_is); (case l => k_is); (case c => k_is); (case k => k_is)
    · refine' U.def_mk KX Gn (fun _ _ _ _ _ _ us hl => match us, hl with | [_, _, _, _, _], _ => rfl) ?a ?l ?c ?k; (case a => k_is); (case l => k_is); (case c => k_is); (case k => k_is)
    · refine' U.def_mk KX Gn (fun _ _ _ _ _ _ us hl => match us, hl with | [_, _, _, _, _, _], _ => rfl) ?a ?l ?c ?k; (case a => k_is); (case l => k_is); (case c => k_is); (case k => k_is)
    · refine' U.def_mk KX Gn (fun _ _ _ _ _ _ us hl => match us, hl with | [_, _, _], _ => rfl) ?a ?l ?c ?k; (case a => k_is); (case l => k_is); (case c => k_is); (case k => k_is)
    · refine' U.def_mk KX Gn (fun _ _ _ _ _ _ us hl => match us, hl with | [_, _, _, _], _ => rfl) ?a ?l ?c ?k; (case a => k_is); (case l => k_is); (case c => k_is); (case k => k_is)
    · refine' U.kok2_mk KX Gn (fun _ _ _ _ _ _ us hl => match us, hl with | [_, _, _, _], _ => rfl) ?aC ?a1 ?i1 ?l1 ?c1 ?k1 ?pg ?hd ?po ?sa ?mk ?kc ?na; (case aC => k_is); (case a1 => k_is); (case i1 => k_is); (case l1 => k_is); (case c1 => k_is); (case k1 => k_is); (case pg => k_is); (case hd => k_is); (case po => k_is); (case sa => k_is); (case mk => k_is); (case kc => k_is)
      case na => intro y hy; simp only [U.wFl, U.cFl, List.mem_cons, List.not_mem_nil, or_false] at hy; rcases hy with rfl | rfl | rfl | rfl | rfl | rfl <;> k_is
    · refine' U.mok_mk KX Gn (fun _ _ _ _ _ _ us hl => match us, hl with | [_, _], _ => rfl) ?aC ?a1 ?i1 ?l1 ?c1 ?k1; (case aC => k_is); (case a1 => k_is); (case i1 => k_is); (case l1 => k_is); (case c1 => k_is); (case k1 => k_is)
    · refine' U.mok_mk KX Gn (fun _ _ _ _ _ _ us hl => match us, hl with | [_, _], _ => rfl) ?aC ?a1 ?i1 ?l1 ?c1 ?k1; (case aC => k_is); (case a1 => k_is); (case i1 => k_is); (case l1 => k_is); (case c1 => k_is); (case k1 => k_is)
    · refine' U.def_mk KX Gn (fun _ _ _ _ _ _ us hl => match us, hl with | [_], _ => rfl) ?a ?l ?c ?k; (case a => k_is); (case l => k_is); (case c => k_is); (case k => k_is)
    · refine' U.def_mk KX Gn (fun _ _ _ _ _ _ us hl => match us, hl with | [_, _, _], _ => rfl) ?a ?l ?c ?k; (case a => k_is); (case l => k_is); (case c => k_is); (case k => k_is)
    · refine' U.def_mk KX Gn (fun _ _ _ _ _ _ us hl => match us, hl with | [_, _, _], _ => rfl) ?a ?l ?c ?k; (case a => k_is); (case l => k_is); (case c => k_is); (case k => k_is)
    · refine' U.def_mk KX Gn (fun _ _ _ _ _ _ us hl => match us, hl with | [_], _ => rfl) ?a ?l ?c ?k; (case a => k_is); (case l => k_is); (case c => k_is); (case k => k_is)
    · refine' U.def_mk KX Gn (fun _ _ _ _ _ _ us hl => match us, hl with | [_], _ => rfl) ?a ?l ?c ?k; (case a => k_is); (case l => k_is); (case c => k_is); (case k => k_is)
    · refine' U.def_mk KX Gn (fun _ _ _ _ _ _ us hl => match us, hl with | [_], _ => rfl) ?a ?l ?c ?k; (case a => k_is); (case l => k_is); (case c => k_is); (case k => k_is)
    · refine' U.def_mk KX Gn (fun _ _ _ _ _ _ us hl => match us, hl with | [_], _ => rfl) ?a ?l ?c ?k; (case a => k_is); (case l => k_is); (case c => k_is); (case k => k_is)
    · refine' U.def_mk KX Gn (fun _ _ _ _ _ _ us hl => match us, hl with | [_], _ => rfl) ?a ?l ?c ?k; (case a => k_is); (case l => k_is); (case c => k_is); (case k => k_is)
    · refine' U.exc_mk KX Gn ?zA ?zB; (case zA => k_is); (case zB => k_exc)
    · refine' U.exc_mk KX Gn ?zA ?zB; (case zA => k_is); (case zB => k_exc)
    · refine' U.exc_mk KX Gn ?zA ?zB; (case zA => k_is); (case zB => k_exc)
    · refine' U.kdx_mk KX Gn ?zA ?zB ?zC ?zD ?zE ?zF ?zG ?zH ?zI ?zJ ?zL; (case zA => k_is); (case zB => k_is); (case zC => kts_exm); (case zD => kernel_rfl); (case zE => kernel_rfl); (case zF => kernel_rfl); (case zG => kernel_rfl); (case zH => kernel_rfl); (case zI => kernel_rfl); (case zJ => kernel_rfl); (case zL => refine' U.kdl_own KX Gn ?a0 ?b0 ?c0; (case a0 => k_is); (case b0 => kernel_rfl); (case c0 => refine' U.kdl_own KX Gn ?a1 ?b1 ?c1; (case a1 => k_is); (case b1 => kernel_rfl); (case c1 => refine' U.kdl_own KX Gn ?a2 ?b2 ?c2; (case a2 => k_is); (case b2 => kernel_rfl); (case c2 => refine' U.kdl_own KX Gn ?a3 ?b3 ?c3; (case a3 => k_is); (case b3 => kernel_rfl); (case c3 => refine' U.kdl_own KX Gn ?a4 ?b4 ?c4; (case a4 => k_is); (case b4 => kernel_rfl); (case c4 => refine' U.kdl_own KX Gn ?a5 ?b5 ?c5; (case a5 => k_is); (case b5 => kernel_rfl); (case c5 => refine' U.kdl_own KX Gn ?a6 ?b6 ?c6; (case a6 => k_is); (case b6 => kernel_rfl); (case c6 => refine' U.kdl_own KX Gn ?a7 ?b7 ?c7; (case a7 => k_is); (case b7 => kernel_rfl); (case c7 => refine' U.kdl_own KX Gn ?a8 ?b8 ?c8; (case a8 => k_is); (case b8 => kernel_rfl); (case c8 => refine' U.kdl_own KX Gn ?a9 ?b9 ?c9; (case a9 => k_is); (case b9 => kernel_rfl); (case c9 => refine' U.kdl_blt KX Gn ?a10 ?e10 ?b10 ?c10; (case a10 => k_is); (case e10 => exact (show bootBuiltins "ValueError" = some (.type "ValueError") by decide +kernel)); (case b10 => kernel_rfl); (case c10 => exact U.kdl_nil))))))))))))
    · refine' U.kdx_mk KX Gn ?zA ?zB ?zC ?zD ?zE ?zF ?zG ?zH ?zI ?zJ ?zL; (case zA => k_is); (case zB => k_is); (case zC => kts_exm); (case zD => kernel_rfl); (case zE => kernel_rfl); (case zF => kernel_rfl); (case zG => kernel_rfl); (case zH => kernel_rfl); (case zI => kernel_rfl); (case zJ => kernel_rfl); (case zL => refine' U.kdl_own KX Gn ?a0 ?b0 ?c0; (case a0 => k_is); (case b0 => kernel_rfl); (case c0 => refine' U.kdl_own KX Gn ?a1 ?b1 ?c1; (case a1 => k_is); (case b1 => kernel_rfl); (case c1 => refine' U.kdl_own KX Gn ?a2 ?b2 ?c2; (case a2 => k_is); (case b2 => kernel_rfl); (case c2 => refine' U.kdl_own KX Gn ?a3 ?b3 ?c3; (case a3 => k_is); (case b3 => kernel_rfl); (case c3 => refine' U.kdl_own KX Gn ?a4 ?b4 ?c4; (case a4 => k_is); (case b4 => kernel_rfl); (case c4 => refine' U.kdl_own KX Gn ?a5 ?b5 ?c5; (case a5 => k_is); (case b5 => kernel_rfl); (case c5 => refine' U.kdl_own KX Gn ?a6 ?b6 ?c6; (case a6 => k_is); (case b6 => kernel_rfl); (case c6 => refine' U.kdl_own KX Gn ?a7 ?b7 ?c7; (case a7 => k_is); (case b7 => kernel_rfl); (case c7 => refine' U.kdl_own KX Gn ?a8 ?b8 ?c8; (case a8 => k_is); (case b8 => kernel_rfl); (case c8 => refine' U.kdl_own KX Gn ?a9 ?b9 ?c9; (case a9 => k_is); (case b9 => kernel_rfl); (case c9 => refine' U.kdl_blt KX Gn ?a10 ?e10 ?b10 ?c10; (case a10 => k_is); (case e10 => exact (show bootBuiltins "ValueError" = some (.type "ValueError") by decide +kernel)); (case b10 => kernel_rfl); (case c10 => exact U.kdl_nil))))))))))))
    · refine' U.kdx_mk KX Gn ?zA ?zB ?zC ?zD ?zE ?zF ?zG ?zH ?zI ?zJ ?zL; (case zA => k_is); (case zB => k_is); (case zC => kts_exm); (case zD => kernel_rfl); (case zE => kernel_rfl); (case zF => kernel_rfl); (case zG => kernel_rfl); (case zH => kernel_rfl); (case zI => kernel_rfl); (case zJ => kernel_rfl); (case zL => refine' U.kdl_own KX Gn ?a0 ?b0 ?c0; (case a0 => k_is); (case b0 => kernel_rfl); (case c0 => refine' U.kdl_own KX Gn ?a1 ?b1 ?c1; (case a1 => k_is); (case b1 => kernel_rfl); (case c1 => refine' U.kdl_own KX Gn ?a2 ?b2 ?c2; (case a2 => k_is); (case b2 => kernel_rfl); (case c2 => refine' U.kdl_own KX Gn ?a3 ?b3 ?c3; (case a3 => k_is); (case b3 => kernel_rfl); (case c3 => refine' U.kdl_own KX Gn ?a4 ?b4 ?c4; (case a4 => k_is); (case b4 => kernel_rfl); (case c4 => refine' U.kdl_own KX Gn ?a5 ?b5 ?c5; (case a5 => k_is); (case b5 => kernel_rfl); (case c5 => refine' U.kdl_own KX Gn ?a6 ?b6 ?c6; (case a6 => k_is); (case b6 => kernel_rfl); (case c6 => refine' U.kdl_own KX Gn ?a7 ?b7 ?c7; (case a7 => k_is); (case b7 => kernel_rfl); (case c7 => refine' U.kdl_own KX Gn ?a8 ?b8 ?c8; (case a8 => k_is); (case b8 => kernel_rfl); (case c8 => refine' U.kdl_own KX Gn ?a9 ?b9 ?c9; (case a9 => k_is); (case b9 => kernel_rfl); (case c9 => refine' U.kdl_blt KX Gn ?a10 ?e10 ?b10 ?c10; (case a10 => k_is); (case e10 => exact (show bootBuiltins "ValueError" = some (.type "ValueError") by decide +kernel)); (case b10 => kernel_rfl); (case c10 => exact U.kdl_nil))))))))))))
    · refine' U.int_mk KX Gn ?a; (case a => k_is)
    · refine' U.int_mk KX Gn ?a; (case a => k_is)
    · refine' U.int_mk KX Gn ?a; (case a => k_is)
    · refine' U.int_mk KX Gn ?a; (case a => k_is)
    · refine' U.non_mk KX Gn ?a; (case a => k_is)
    · refine' U.non_mk KX Gn ?a; (case a => k_is)
    · refine' U.non_mk KX Gn ?a; (case a => k_is)
    · refine' U.non_mk KX Gn ?a; (case a => k_is)
    · refine' U.non_mk KX Gn ?a; (case a => k_is)
    · refine' U.non_mk KX Gn ?a; (case a => k_is)
    · refine' U.non_mk KX Gn ?a; (case a => k_is)
    · refine' U.non_mk KX Gn ?a; (case a => k_is)
    · refine' U.non_mk KX Gn ?a; (case a => k_is)
    · refine' U.non_mk KX Gn ?a; (case a => k_is)
    · refine' U.non_mk KX Gn ?a; (case a => k_is)
    · refine' U.non_mk KX Gn ?a; (case a => k_is)
  case S => exact fun K gs gl H a o ns hl h1 h2 h3 => fun G hK hT hLt => U.law_spL hl h1 h2 h3 U.K14.law_true hT hLt
