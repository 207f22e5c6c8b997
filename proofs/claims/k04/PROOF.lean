import PyProof.Rows.All
import Wide.All
import OpenK.AllK
import Wide.FinOn
import Lean
import PyProof.EqAt
import PyProof.EqKinds
import PyProof.TupleCall
import PyProof.SeqI3
import KE.KTupSum
import KE.LcSums
import KE.KDictSum
import PySem.Challenge.RW_leaperwalk_k04_parts
set_option Elab.async false
set_option linter.all false
set_option maxRecDepth 100000
-- CHANGE: your row's module here, as the last of these rows
set_option Elab.async false
set_option linter.all false
set_option maxRecDepth 100000
/-! THE HAND LAYER, for ints, bools, texts, own classes, LISTS and tuples (index, slices, in, append, pop ..), calls, loops. Paste it whole ahead of your own text; what your proof does not reach may be deleted. -/
namespace L2
open PySem PySem.Spec PyProof.Rows
/-- a key: an int or a str -/
abbrev Key := Sum Int Str
def keyIs : Key → Value → Bool
  | .inl k, v => Value.isInt k v
  | .inr x, v => Value.isStrOf x v
def keyH (w : World) : Key → Int
  | .inl k => hashInt k
  | .inr x => hashStr w x
theorem keyIs_shape : ∀ {k : Key} {v : Value}, keyIs k v = true → (∃ i t, k = Sum.inl i ∧ v = Value.int i t) ∨ (∃ x t, k = Sum.inr x ∧ v = Value.str x t)
  | .inl i, v, h => by
    obtain ⟨t, e⟩ := Value.isInt_shape (k := i) (v := v) h
    exact .inl ⟨i, t, rfl, e⟩
  | .inr x, v, h => by
    obtain ⟨t, e⟩ := Value.isStrOf_shape (x := x) (v := v) h
    exact .inr ⟨x, t, rfl, e⟩
theorem keyIs_int (i : Int) (t : Tok) : keyIs (.inl i) (.int i t) = true := by simp [keyIs, Value.isInt]
theorem keyIs_str (x : Str) (t : Tok) : keyIs (.inr x) (.str x t) = true := by simp [keyIs, Value.isStrOf]
theorem key_ll (a b : Int) : decide ((Sum.inl a : Key) = Sum.inl b) = (a == b) := by
  by_cases e : a = b
  · subst e; simp
  · have h : ¬ (Sum.inl a : Key) = Sum.inl b := fun q => e (Sum.inl.inj q)
    rw [decide_eq_false h]
    exact (beq_eq_false_iff_ne.mpr e).symm
theorem key_rr (a b : Str) : decide ((Sum.inr a : Key) = Sum.inr b) = decide (a = b) := by
  by_cases e : a = b
  · subst e; simp
  · have h : ¬ (Sum.inr a : Key) = Sum.inr b := fun q => e (Sum.inr.inj q)
    rw [decide_eq_false h, decide_eq_false e]
theorem key_lr (a : Int) (b : Str) : decide ((Sum.inl a : Key) = Sum.inr b) = false := decide_eq_false (fun q => nomatch q)
theorem key_rl (a : Str) (b : Int) : decide ((Sum.inr a : Key) = Sum.inl b) = false := decide_eq_false (fun q => nomatch q)
def mixKind (prog : Program) (w : World) : PySem.KeyKind prog w Key where
  is := keyIs
  hash := keyH w
  inj := fun v a b ha hb => by
    rcases keyIs_shape ha with ⟨i, t, rfl, rfl⟩ | ⟨x, t, rfl, rfl⟩
    · rcases keyIs_shape hb with ⟨j, u, rfl, e⟩ | ⟨y, u, rfl, e⟩
      · injection e with e1 _; rw [e1]
      · exact nomatch e
    · rcases keyIs_shape hb with ⟨j, u, rfl, e⟩ | ⟨y, u, rfl, e⟩
      · exact nomatch e
      · injection e with e1 _; rw [e1]
  byValue := fun k v h => by
    rcases keyIs_shape h with ⟨i, t, rfl, rfl⟩ | ⟨x, t, rfl, rfl⟩ <;> rfl
  pyHash := fun hv h => by
    rcases keyIs_shape hv with ⟨i, t, rfl, rfl⟩ | ⟨x, t, rfl, rfl⟩
    · exact wpAny_pyHash_int h
    · exact wpAny_pyHash_str h
  eqBool := fun hu hv h => by
    rcases keyIs_shape hu with ⟨i, t, rfl, rfl⟩ | ⟨x, t, rfl, rfl⟩
    · rcases keyIs_shape hv with ⟨j, u, rfl, rfl⟩ | ⟨y, u, rfl, rfl⟩
      · rw [key_ll] at h; exact wpAny_eqBool_int h
      · rw [key_lr] at h; exact SeqAt.EqAt.int_str i t y u _ _ _ _ h
    · rcases keyIs_shape hv with ⟨j, u, rfl, rfl⟩ | ⟨y, u, rfl, rfl⟩
      · rw [key_rl] at h; exact SeqAt.EqAt.str_int x t j u _ _ _ _ h
      · rw [key_rr] at h; exact wpAny_eqBool_str h
  «strs» := fun k x t v h => by
    rcases keyIs_shape h with ⟨i, u, rfl, e⟩ | ⟨y, u, rfl, e⟩
    · exact nomatch e
    · injection e with e1 _
      subst e1
      cases v <;> rfl
theorem mixKind_int (prog : Program) (w : World) (i : Int) (t : Tok) : (mixKind prog w).is (.inl i) (.int i t) = true := keyIs_int i t
theorem mixKind_str (prog : Program) (w : World) (x : Str) (t : Tok) : (mixKind prog w).is (.inr x) (.str x t) = true := keyIs_str x t
end L2
namespace L2
open PySem PySem.Spec PyProof.Rows
/-- a value, without the heap -/
inductive V where
  | non | bl (b : Bool) | int (i : Int) | str (x : Str) | byt (b : Array UInt8) | flt (b : UInt64) | ref (a : Addr) | ty (n : String)
  deriving DecidableEq
def RelV : V → Value → Prop
  | .non, u => u = Value.none
  | .bl b, u => u = Value.bool b
  | .int i, u => ∃ t, u = Value.int i t
  | .str x, u => ∃ t, u = Value.str x t
  | .byt b, u => ∃ t, u = Value.bytes b t
  | .flt b, u => ∃ t, u = Value.float b t
  | .ref a, u => u = Value.ref a
  | .ty n, u => u = Value.type n
abbrev Vals : List V → List Value → Prop := Paired RelV
theorem Vals.length {xs : List V} {us : List Value} (r : Vals xs us) : xs.length = us.length := Paired.length r
theorem Vals.get : ∀ {xs : List V} {us : List Value} {i : Nat} {x : V}, Vals xs us → xs[i]? = some x → ∃ u, us[i]? = some u ∧ RelV x u
  | _, _, _, _, .nil, e => by simp at e
  | _, _, 0, _, .cons r _, e => by simp at e; subst e; exact ⟨_, rfl, r⟩
  | _, _, i + 1, x, .cons _ t, e => by
    obtain ⟨u, h1, h2⟩ := Vals.get (i := i) (x := x) t (by simpa using e)
    exact ⟨u, by simpa using h1, h2⟩
theorem Vals.set {x : V} {u : Value} (r : RelV x u) : ∀ {xs : List V} {us : List Value} (i : Nat), Vals xs us → Vals (xs.set i x) (us.set i u)
  | _, _, _, .nil => .nil
  | _, _, 0, .cons _ t => .cons r t
  | _, _, i + 1, .cons q t => .cons q (Vals.set r i t)
theorem Vals.append : ∀ {xs ys : List V} {us ws : List Value}, Vals xs us → Vals ys ws → Vals (xs ++ ys) (us ++ ws)
  | _, _, _, _, .nil, s => s
  | _, _, _, _, .cons r t, s => .cons r (Vals.append t s)
theorem Vals.take : ∀ {xs : List V} {us : List Value} (n : Nat), Vals xs us → Vals (xs.take n) (us.take n)
  | _, _, 0, _ => .nil
  | _, _, _ + 1, .nil => .nil
  | _, _, n + 1, .cons r t => .cons r (Vals.take n t)
theorem Vals.drop : ∀ {xs : List V} {us : List Value} (n : Nat), Vals xs us → Vals (xs.drop n) (us.drop n)
  | _, _, 0, r => r
  | _, _, _ + 1, .nil => .nil
  | _, _, n + 1, .cons _ t => Vals.drop n t
def RelO : Option V → Option Value → Prop
  | some v, some u => RelV v u
  | none, none => True
  | _, _ => False
def KV {κ : Type} : List (κ × V) → List (κ × Value) → Prop := Paired fun (p : κ × V) (q : κ × Value) => p.1 = q.1 ∧ RelV p.2 q.2
/-- a key of a dict (00_mix): an int or a text -/
def kV : Key → V
  | .inl i => .int i
  | .inr x => .str x
/-- what stands at a tracked address -/
inductive HO where
  /-- a list -/
  | lst (xs : List V)
  /-- a tuple (never changes) -/
  | tup (xs : List V)
  /-- a dict whose keys are ints and texts; one whose keys are tuples of ints and texts (the empty one is both) -/
  | dK (kvs : List (Key × V)) | dT (kvs : List (List Key × V))
  /-- a set of ints: its members, its size -/
  | set (S : Int → Bool) (n : Nat)
  /-- an instance of the class at C, its dict at dx, its attributes -/
  | ins (C dx : Addr) (fs : List (Str × V))
  /-- the dict of the instance at x -/
  | own (x : Addr)
  /-- the dict of an exception -/
  | xd (fs : List (Str × V))
  /-- a bound method, f of x -/
  | met (f x : Addr)
  /-- a range object lo, lo + 1, .. below hi -/
  | rng (lo hi : Int)
  /-- a thing that is known to the object (the script; a dict while a loop walks it): read, never written while it is so -/
  | frz (o : Obj) (u : HO)
  /-- a code object's table -/
  | tbl (ps : Array Value)
  /-- any other thing, by what is true of its one object (a def of one's own: SetO a S n := HO.ext fun h => ..) -/
  | ext (φ : Heap → Prop)
abbrev Hp := Addr → Option HO
def upd (H : Hp) (a : Addr) (o : HO) : Hp := fun b => if b = a then some o else H b
theorem upd_same {H : Hp} {a : Addr} {o : HO} : upd H a o a = some o := by unfold upd; rw [if_pos rfl]
theorem upd_ne {H : Hp} {a b : Addr} {o : HO} (h : b ≠ a) : upd H a o b = H b := by unfold upd; rw [if_neg h]
/-- two objects of different content stand apart -/
theorem ne_of {H : Hp} {a b : Addr} {o u : HO} (h : H a = some o) (h' : H b = some u) (d : o ≠ u) : a ≠ b := by
  intro e; subst e; rw [h] at h'; exact d (Option.some.inj h')
theorem ne_of_none {H : Hp} {a b : Addr} {o : HO} (h : H a = some o) (h' : H b = none) : a ≠ b := by
  intro e; subst e; rw [h] at h'; cases h'
section
variable (P : Program) (w : World)
def ObjOk (H : Hp) (h : Heap) (a : Addr) : HO → Prop
  | .lst xs => xs.length ≤ sizeLine ∧ ∃ (its : List Value) (n : Nat), Vals xs its ∧ h.get? a = some { cls := .type "list", data := .seq its.toArray n }
  | .tup xs => xs.length ≤ sizeLine ∧ ∃ its : List Value, Vals xs its ∧ IsTup h a its.toArray
  | .dK kvs => kvs.length ≤ sizeLine ∧ (a == sysModules) = false ∧ ∃ vs, KV kvs vs ∧ h.DictOf (mixKind P w) a vs
  | .dT kvs => kvs.length ≤ sizeLine ∧ (a == sysModules) = false ∧ ∃ xs : List (List Key × Addr × Value),
      Paired (fun (p : List Key × V) (q : List Key × Addr × Value) => p.1 = q.1 ∧ H q.2.1 = some (.tup (p.1.map kV)) ∧ RelV p.2 q.2.2) kvs xs ∧
      ∃ o es ep, h.get? a = some o ∧ o.ExactDict ∧ o.data = .dict es ep ∧ es.toList = xs.map (entryOfKey (tupleKind (mixKind P w))) ∧ (xs.map (·.1)).Nodup
  | .set S n => h.SetOf (intKind P w) a S n
  | .ins C dx fs => H dx = some (.own a) ∧ fs.length ≤ 1000 ∧ dx ≠ a ∧ h.get? a = some (PySem.W.instObj C dx) ∧
      ∃ mA, h.Ns1 dx mA ∧ (∀ f, RelO (fs.lookup f) (mA f)) ∧ PySem.Within mA (fs.map (·.1))
  | .own _ => ∃ o, h.get? a = some o
  | .xd fs => ∃ mA, h.Ns1 a mA ∧ ∀ f, RelO (fs.lookup f) (mA f)
  | .rng lo hi => ∃ t u v, h.get? a = some { cls := .type "range", data := .fields #[.int lo t, .int hi u, .int 1 v] }
  | .frz o u => h.get? a = some o ∧ ObjOk H h a u
  | .tbl ps => h.get? a = some { cls := .none, data := .fields ps }
  | .met f x => h.get? a = some (PySem.W.methodObj (.ref f) (.ref x))
  | .ext φ => φ h ∧ (∃ o, h.get? a = some o) ∧ ∀ h1 h2 : Heap, φ h1 → (∀ o, h1.get? a = some o → h2.get? a = some o) → φ h2
/-- the abstract heap is held -/
def HOk (H : Hp) (h : Heap) : Prop := ∀ a o, H a = some o → ObjOk P w H h a o
end
section
variable {P : Program} {w : World} {H H' : Hp} {h h' : Heap} {a : Addr} {o : HO}
theorem ObjOk.lt (x : ObjOk P w H h a o) : a < h.objs.size := by
  cases o with
  | lst xs => obtain ⟨_, _, _, _, e⟩ := x; exact Heap.lt_size e
  | tup xs => obtain ⟨_, _, _, p⟩ := x; exact p.lt
  | dK kvs => obtain ⟨_, _, _, _, o, _, _, e, _⟩ := x; exact Heap.lt_size e
  | dT kvs => obtain ⟨_, _, _, _, o, _, _, e, _⟩ := x; exact Heap.lt_size e
  | set S n => obtain ⟨o, _, _, _, e, _⟩ := x; exact Heap.lt_size e
  | ins C dx fs => obtain ⟨_, _, _, e, _⟩ := x; exact Heap.lt_size e
  | own y => obtain ⟨_, e⟩ := x; exact Heap.lt_size e
  | xd fs => obtain ⟨_, ⟨_, _, _, e, _⟩, _⟩ := x; exact Heap.lt_size e
  | rng lo hi => obtain ⟨_, _, _, e⟩ := x; exact Heap.lt_size e
  | frz ob u => obtain ⟨e, _⟩ := x; exact Heap.lt_size e
  | tbl ps => exact Heap.lt_size (show h.get? a = some _ from x)
  | met f y => exact Heap.lt_size (show h.get? a = some _ from x)
  | ext φ => obtain ⟨_, ⟨_, e⟩, _⟩ := x; exact Heap.lt_size e
theorem Paired.mapP {α β : Type} {F G : α → β → Prop} : ∀ {l₁ : List α} {l₂ : List β}, Paired F l₁ l₂ → (∀ a b, F a b → G a b) → Paired G l₁ l₂
  | _, _, .nil, _ => .nil
  | _, _, .cons r t, f => .cons (f _ _ r) (Paired.mapP t f)
theorem Paired.imp' {α β : Type} {F G : α → β → Prop} (f : ∀ a b, F a b → G a b) {l₁ : List α} {l₂ : List β} (r : Paired F l₁ l₂) : Paired G l₁ l₂ := Paired.mapP r f
/-- what an object's description leans on: its own object, its own dict, the tuples -/
theorem ObjOk.stay (x : ObjOk P w H h a o) (k : ∀ b u, (b = a ∨ H b = some (.own a)) → h.get? b = some u → h'.get? b = some u)
    (ho : ∀ b, H b = some (.own a) → H' b = some (.own a)) (ht : ∀ b xs, H b = some (.tup xs) → H' b = some (.tup xs)) : ObjOk P w H' h' a o := by
  induction o with
  | lst xs => obtain ⟨z, its, n, r, e⟩ := x; exact ⟨z, its, n, r, k _ _ (.inl rfl) e⟩
  | tup xs => obtain ⟨z, its, r, ob, e, c⟩ := x; exact ⟨z, its, r, ob, k _ _ (.inl rfl) e, c⟩
  | dK kvs => obtain ⟨z, y, vs, r, ob, es, ep, e, c⟩ := x; exact ⟨z, y, vs, r, ob, es, ep, k _ _ (.inl rfl) e, c⟩
  | dT kvs =>
    obtain ⟨z, y, xs, r, ob, es, ep, e, c⟩ := x
    exact ⟨z, y, xs, Paired.mapP r fun p q z => ⟨z.1, ht _ _ z.2.1, z.2.2⟩, ob, es, ep, k _ _ (.inl rfl) e, c⟩
  | set S n => obtain ⟨ob, es, ep, t, e, c⟩ := x; exact ⟨ob, es, ep, t, k _ _ (.inl rfl) e, c⟩
  | ins C dx fs =>
    obtain ⟨d, z, ne, e, mA, ⟨od, es, ep, e2, c⟩, r⟩ := x
    exact ⟨ho _ d, z, ne, k _ _ (.inl rfl) e, mA, ⟨od, es, ep, k _ _ (.inr d) e2, c⟩, r⟩
  | own y => obtain ⟨ob, e⟩ := x; exact ⟨ob, k _ _ (.inl rfl) e⟩
  | xd fs => obtain ⟨mA, ⟨od, es, ep, e, c⟩, r⟩ := x; exact ⟨mA, ⟨od, es, ep, k _ _ (.inl rfl) e, c⟩, r⟩
  | rng lo hi => obtain ⟨t, u, v, e⟩ := x; exact ⟨t, u, v, k _ _ (.inl rfl) e⟩
  | frz ob u ih => obtain ⟨e, q⟩ := x; exact ⟨k _ _ (.inl rfl) e, ih q⟩
  | tbl ps =>
    have e : h.get? a = some { cls := .none, data := .fields ps } := x
    show h'.get? a = some { cls := .none, data := .fields ps }
    exact k a _ (.inl rfl) e
  | met f y =>
    have e : h.get? a = some (PySem.W.methodObj (.ref f) (.ref y)) := x
    show h'.get? a = some (PySem.W.methodObj (.ref f) (.ref y))
    exact k a _ (.inl rfl) e
  | ext φ => obtain ⟨p, ⟨o, e⟩, st⟩ := x; exact ⟨st _ _ p fun o q => k _ _ (.inl rfl) q, ⟨o, k _ _ (.inl rfl) e⟩, st⟩
theorem HOk.lt (x : HOk P w H h) (e : H a = some o) : a < h.objs.size := (x a o e).lt
theorem HOk.fresh (x : HOk P w H h) (e : h.objs.size ≤ a) : H a = none := by
  cases q : H a with
  | none => rfl
  | some u => exact absurd (Nat.lt_of_lt_of_le (x.lt q) e) (Nat.lt_irrefl _)
/-- every object of the heap is kept -/
theorem HOk.kept (x : HOk P w H h) (k : ∀ b u, h.get? b = some u → h'.get? b = some u) : HOk P w H h' := fun a o e =>
  (x a o e).stay (fun b u _ q => k b u q) (fun _ q => q) fun _ _ q => q
/-- a new object is laid and tracked -/
theorem HOk.laid (x : HOk P w H h) (k : ∀ b u, h.get? b = some u → h'.get? b = some u) (hp : h.objs.size ≤ a) (new : ObjOk P w (upd H a o) h' a o) : HOk P w (upd H a o) h' := fun b u e => by
  have hn := x.fresh hp
  by_cases hb : b = a
  · subst hb; rw [upd_same] at e; cases e; exact new
  · rw [upd_ne hb] at e
    exact (x b u e).stay (fun c v _ q => k c v q) (fun c q => by rw [upd_ne (ne_of_none q hn)]; exact q) fun c xs q => by rw [upd_ne (ne_of_none q hn)]; exact q
end
/-- what may be read as u: it is u, or a known u -/
def Rd (H : Hp) (a : Addr) (u : HO) : Prop := H a = some u ∨ ∃ o, H a = some (.frz o u)
theorem Rd.of {H : Hp} {a : Addr} {u : HO} (h : H a = some u) : Rd H a u := .inl h
theorem Rd.ok {P : Program} {w : World} {H : Hp} {h : Heap} {a : Addr} {u : HO} (r : Rd H a u) (x : HOk P w H h) : ObjOk P w H h a u := by
  rcases r with r | ⟨o, r⟩
  · exact x a u r
  · obtain ⟨_, q⟩ := x a _ r
    exact q
/-- what may be written -/
def Mut : Option HO → Prop
  | some (.lst _) => True
  | some (.dK _) => True
  | some (.dT _) => True
  | some (.set _ _) => True
  | some (.ins _ _ _) => True
  | some (.ext _) => True
  | _ => False
section
variable {P : Program} {w : World} {H : Hp} {h h' : Heap} {x e : Addr} {o' : HO}
/-- the object at e is changed: x itself, or the dict of the instance x -/
theorem HOk.write (ok : HOk P w H h) (mu : Mut (H x)) (he : e = x ∨ H e = some (.own x)) (k : ∀ b u, b ≠ e → h.get? b = some u → h'.get? b = some u) (heo : ∃ u, h'.get? e = some u)
    (new : ObjOk P w (upd H x o') h' x o') : HOk P w (upd H x o') h' := fun b u q => by
  have nown : ∀ c y, H c = some (.own y) → c ≠ x := fun c y r z => by subst z; rw [r] at mu; exact mu
  have ntup : ∀ c xs, H c = some (.tup xs) → c ≠ x := fun c xs r z => by subst z; rw [r] at mu; exact mu
  by_cases hb : b = x
  · subst hb; rw [upd_same] at q; cases q; exact new
  · rw [upd_ne hb] at q
    by_cases hbe : b = e
    · have q' : H b = some (.own x) := by
        rcases he with z | z
        · exact absurd (hbe.trans z) hb
        · rw [hbe]; exact z
      rw [q] at q'; cases q'
      obtain ⟨v, hv⟩ := heo
      exact ⟨v, by rw [hbe]; exact hv⟩
    · refine (ok b u q).stay (fun c v hc r => k c v ?_ r) (fun c r => by rw [upd_ne (nown c b r)]; exact r) fun c xs r => by rw [upd_ne (ntup c xs r)]; exact r
      rcases hc with rfl | hc
      · exact hbe
      · rintro rfl
        rcases he with z | z
        · exact nown c b hc z
        · rw [hc] at z; cases z; exact hb rfl
end
/-! ### kept unless tracked; of the frames at fs (the callers') the slots may change (an exception that passes writes there); of the records at ex (iterators) nothing is said -/
structure Un (fs ex : List Addr) (H H' : Hp) (h h' : Heap) : Prop where
  keep : ∀ b o, h.get? b = some o → H b = none → b ∉ fs → b ∉ ex → h'.get? b = some o
  slot : ∀ b o, h.get? b = some o → H b = none → b ∈ fs → b ∉ ex → ∃ sl, h'.get? b = some { o with slots := sl }
  free : ∀ b o, h.get? b = some o → H b = none → b ∉ ex → H' b = none
  there : ∀ b o, h.get? b = some o → b ∉ ex → ∃ o', h'.get? b = some o'
  tups : ∀ b xs, H b = some (.tup xs) → H' b = some (.tup xs)
  frzs : ∀ b o u, H b = some (.frz o u) → H' b = some (.frz o u)
  tbls : ∀ b ps, H b = some (.tbl ps) → ∃ more, H' b = some (.tbl (ps ++ more))
section
variable {fs fs' ex ex' : List Addr} {H H1 H2 : Hp} {h h1 h2 h' : Heap} {a x e : Addr} {o : HO}
theorem Un.any (u : Un fs ex H H1 h h1) {b : Addr} {ob : Obj} (q : h.get? b = some ob) (n : H b = none) (hx : b ∉ ex) : ∃ sl, h1.get? b = some { ob with slots := sl } := by
  by_cases hb : b ∈ fs
  · exact u.slot b ob q n hb hx
  · exact ⟨ob.slots, u.keep b ob q n hb hx⟩
theorem Un.trans (a : Un fs ex H H1 h h1) (b : Un fs ex H1 H2 h1 h2) : Un fs ex H H2 h h2 where
  keep := fun c ob q n hc hx => b.keep c ob (a.keep c ob q n hc hx) (a.free c ob q n hx) hc hx
  slot := fun c ob q n hc hx => by
    obtain ⟨sl, e1⟩ := a.slot c ob q n hc hx
    obtain ⟨sl', e2⟩ := b.slot c _ e1 (a.free c ob q n hx) hc hx
    exact ⟨sl', e2⟩
  free := fun c ob q n hx => by
    obtain ⟨o', e1⟩ := a.there c ob q hx
    exact b.free c o' e1 (a.free c ob q n hx) hx
  there := fun c ob q hx => by
    obtain ⟨o', e1⟩ := a.there c ob q hx
    exact b.there c o' e1 hx
  tups := fun c xs q => b.tups c xs (a.tups c xs q)
  frzs := fun c ob xs q => b.frzs c ob xs (a.frzs c ob xs q)
  tbls := fun c ps q => by
    obtain ⟨m1, e1⟩ := a.tbls c ps q
    obtain ⟨m2, e2⟩ := b.tbls c _ e1
    exact ⟨m1 ++ m2, by rw [e2, Array.append_assoc]⟩
theorem Un.kept (k : ∀ b u, h.get? b = some u → h'.get? b = some u) : Un fs ex H H h h' :=
  ⟨fun b ob q _ _ _ => k b ob q, fun b ob q _ _ _ => ⟨ob.slots, k b ob q⟩, fun _ _ _ n _ => n, fun b ob q _ => ⟨ob, k b ob q⟩, fun _ _ q => q, fun _ _ _ q => q, fun _ ps q => ⟨#[], by rw [q]; simp⟩⟩
theorem Un.refl : Un fs ex H H h h := Un.kept fun _ _ q => q
theorem Un.laid (k : ∀ b u, h.get? b = some u → h'.get? b = some u) (hp : h.objs.size ≤ a) (hn : H a = none) : Un fs ex H (upd H a o) h h' where
  keep := fun b u q _ _ _ => k b u q
  slot := fun b u q _ _ _ => ⟨u.slots, k b u q⟩
  free := fun b u q n _ => by rw [upd_ne (Nat.ne_of_lt (Nat.lt_of_lt_of_le (Heap.lt_size q) hp))]; exact n
  there := fun b u q _ => ⟨u, k b u q⟩
  tups := fun b xs q => by rw [upd_ne (ne_of_none q hn)]; exact q
  frzs := fun b u xs q => by rw [upd_ne (ne_of_none q hn)]; exact q
  tbls := fun b ps q => ⟨#[], by rw [upd_ne (ne_of_none q hn), q]; simp⟩
theorem Un.write (mu : Mut (H x)) (he : e = x ∨ H e = some (.own x)) (k : ∀ b u, b ≠ e → h.get? b = some u → h'.get? b = some u) (heo : ∃ u, h'.get? e = some u) : Un fs ex H (upd H x o) h h' := by
  have hx : ∀ b, H b = none → b ≠ x := fun b n z => by subst z; rw [n] at mu; exact mu
  have hb : ∀ b, H b = none → b ≠ e := fun b n z => by
    subst z
    rcases he with r | r
    · exact hx b n r
    · rw [n] at r; cases r
  have hm : ∀ b u, H b = some u → ¬ Mut (some u) → b ≠ x := fun b u q nm z => by subst z; rw [q] at mu; exact nm mu
  refine ⟨fun b u q n _ _ => k b u (hb b n) q, fun b u q n _ _ => ⟨u.slots, k b u (hb b n) q⟩, fun b u q n _ => by rw [upd_ne (hx b n)]; exact n, fun b u q _ => ?_,
    fun b xs q => by rw [upd_ne (hm b _ q fun z => z)]; exact q, fun b u xs q => by rw [upd_ne (hm b _ q fun z => z)]; exact q, fun b ps q => ⟨#[], by rw [upd_ne (hm b _ q fun z => z), q]; simp⟩⟩
  by_cases hbe : b = e
  · subst hbe; exact heo
  · exact ⟨u, k b u hbe q⟩
theorem Un.mono (u : Un fs ex H H1 h h1) (hs : ∀ b ∈ fs, b ∈ fs') (hx : ∀ b ∈ ex, b ∈ ex') : Un fs' ex' H H1 h h1 :=
  ⟨fun b ob q n hb he => u.keep b ob q n (fun z => hb (hs b z)) fun z => he (hx b z), fun _ _ q n _ he => u.any q n fun z => he (hx _ z), fun b ob q n he => u.free b ob q n fun z => he (hx b z), fun b ob q he => u.there b ob q fun z => he (hx b z), u.tups, u.frzs, u.tbls⟩
end
/-! ### the heap without what is tracked -/
def trk (h : Heap) (H : Hp) : List Addr := (List.range h.objs.size).filter fun a => (H a).isSome
def hidT (h : Heap) (H : Hp) : Heap := PySem.W.hideAll h (trk h H)
theorem hidT_size (h : Heap) (H : Hp) : (hidT h H).objs.size = h.objs.size := PySem.W.hideAll_size _ _
theorem hidT_get {h : Heap} {H : Hp} {b : Addr} {o : Obj} (e : h.get? b = some o) (n : H b = none) : (hidT h H).get? b = some o :=
  PySem.W.hideAll_get _ e fun hm => by
    have q : (H b).isSome = true := (List.mem_filter.mp hm).2
    rw [n] at q; simp at q
theorem of_hidT {h : Heap} {H : Hp} {b : Addr} {o : Obj} (e : (hidT h H).get? b = some o) : h.get? b = some o ∧ H b = none := by
  have e' : h.get? b = some o := PySem.W.of_hideAll (trk h H) e
  refine ⟨e', ?_⟩
  cases q : H b with
  | none => rfl
  | some x =>
    have hm : b ∈ trk h H := List.mem_filter.mpr ⟨List.mem_range.mpr (Heap.lt_size e'), by simp [q]⟩
    have z : (hidT h H).get? b = none := PySem.W.hideAll_none (trk h H) hm
    rw [z] at e; cases e
/-! ### OpenK's ledger, filled with every new object but one -/
def allNews (g h : Heap) (L : Addr) : List (Addr × Obj) := (List.range h.objs.size).filterMap fun a => if a = L ∨ (g.get? a).isSome = true then none else (h.get? a).map fun o => (a, o)
def rest (g h : Heap) (L d : Addr) : List (Addr × Obj) := (allNews g h L).filter fun p => decide (p.1 ≠ d)
end L2
namespace L2
open PySem PySem.Spec PyProof.Rows
/-- the module's facts, over the base: the heap at the law's entry without what is tracked there -/
structure Mod (K : PySem.W.Frag) (mg : Str → Option Value) (base : Heap) : Prop where
  kin : K.In base
  glob : base.Ns mainGlobals mg
  blt : ∃ mb, base.Ns builtinsNs mb ∧ ∀ x : Str, x ≠ "__name__" → mb x = bootBuiltins x
  nolimit : base.NoLimit
/-- the context: a def's body (or a comprehension's block) running. base: fixed through the whole law; s₀, H₀: the entry; outer: the frames whose slots others may change (a def's callers); stack: all frames that run;
   ex: iterators that were made ahead of the entry and are walked here (a comprehension's); fn: the names whose cells were made at the entry (a def: all; a comprehension's block: its own); calm: not within an except suite; pn: pins that every state bears; xe: what is wanted of an exception that leaves the code -/
structure Cx where
  prog : Program
  w : World
  K : PySem.W.Frag
  mg : Str → Option Value
  base : Heap
  A : Around
  N : List Str
  s₀ : Shared
  H₀ : Hp
  env : Env
  outer : List Env
  stack : List Env
  ex : List Addr
  fn : Str → Bool
  calm : Bool
  pn : List (Addr × Obj)
  xe : Value → Shared → Prop
/-- the callers' frames -/
def frs (l : List Env) : List Addr := l.filterMap (·.frame)
abbrev Cx.fs (X : Cx) : List Addr := frs X.outer
def Vis (sc : Scope) (x : Str) : Prop := sc.names.lookup x = some .local ∨ sc.names.lookup x = some .cell ∨ sc.names.lookup x = some .free
def Loc (sc : Scope) (x : Str) : Prop := sc.names.lookup x = some .local ∨ sc.names.lookup x = some .cell
def Look (env : Env) (h : Heap) (m : Str → Option Value) (x : Str) (u : Value) : Prop :=
  (env.kindOf x = some .local ∧ m x = some u) ∨ ((env.kindOf x = some .cell ∨ env.kindOf x = some .free) ∧ ∃ c, env.cells.lookup x = some c ∧ h.IsCell c (some u))
structure Cx.Ok (X : Cx) : Prop where
  mod : Mod X.K X.mg X.base
  kind : X.env.scope.kind = .function
  glob : X.env.globals = mainGlobals
  blt : X.env.builtins = builtinsNs
  above : X.s₀.heap.objs.size ≤ X.env.locals
  inj : ∀ x y c, X.env.cells.lookup x = some c → X.env.cells.lookup y = some c → x = y
  has : ∀ x, (X.env.kindOf x = some .cell ∨ X.env.kindOf x = some .free) → ∃ c, X.env.cells.lookup x = some c
  cab : ∀ x c, X.fn x = true → X.env.cells.lookup x = some c → X.s₀.heap.objs.size ≤ c
  hd : X.calm = true → X.A.handled = none
  frames : X.A.frames = some X.stack
  stk : X.stack = X.outer ∨ (X.stack = X.env :: X.outer ∧ X.env.frame = some X.env.locals)
  exf : ∀ b ∈ X.ex, b ≠ X.env.locals ∧ ∀ x c, X.env.cells.lookup x = some c → c ≠ b
  bs : ∀ b o, X.base.get? b = some o → X.s₀.heap.get? b = some o ∧ X.H₀ b = none
  bsz : X.base.objs.size ≤ X.s₀.heap.objs.size
  noex : ∀ b o, X.base.get? b = some o → b ∉ X.ex
  exfs : ∀ b ∈ X.ex, b ∉ X.fs
  funs : X.s₀.heap.FunFrames X.base X.outer
  frf : ∀ b ∈ X.fs, X.H₀ b = none
structure Inv (X : Cx) (pins : List (Addr × Obj)) (σ : List (Option V)) (H : Hp) (s : Shared) : Prop where
  ok : X.Ok
  os : s.os = X.s₀.os
  bare : AllBare s.gens
  base : Un X.fs X.ex X.H₀ H X.s₀.heap s.heap
  loc : ∃ m, s.heap.Ns X.env.locals m ∧ ∀ (i : Nat) (x : Str) (v : V), X.N[i]? = some x → σ[i]? = some (some v) → Vis X.env.scope x → ∃ u, RelV v u ∧ Look X.env s.heap m x u
  cell : ∀ x c, X.env.cells.lookup x = some c → ∃ v, s.heap.IsCell c v
  free : H X.env.locals = none
  freeC : ∀ x c, X.env.cells.lookup x = some c → H c = none
  pin : ∀ p ∈ X.pn ++ pins, s.heap.get? p.1 = some p.2 ∧ H p.1 = none ∧ p.1 ≠ X.env.locals ∧ p.1 ∉ X.fs ∧ ∀ v, p.2.data ≠ .cell v
  hok : HOk X.prog X.w H s.heap
  len : σ.length = X.N.length
section
variable {X : Cx} {pins : List (Addr × Obj)} {σ : List (Option V)} {H H' : Hp} {s : Shared} {h' : Heap}
theorem Cx.Ok.nofr (ok : X.Ok) {b : Addr} {o : Obj} (e : X.base.get? b = some o) : b ∉ X.fs := fun hb => by
  have := (ok.funs.mem hb).1
  rw [e] at this; cases this
theorem Inv.bs (I : Inv X pins σ H s) : ∀ b o, X.base.get? b = some o → s.heap.get? b = some o ∧ H b = none := fun b o e =>
  ⟨I.base.keep b o (I.ok.bs b o e).1 (I.ok.bs b o e).2 (I.ok.nofr e) (I.ok.noex b o e), I.base.free b o (I.ok.bs b o e).1 (I.ok.bs b o e).2 (I.ok.noex b o e)⟩
theorem Inv.bk (I : Inv X pins σ H s) : ∀ b o, X.base.get? b = some o → s.heap.get? b = some o := fun b o e => (I.bs b o e).1
theorem Inv.mod (I : Inv X pins σ H s) : Mod X.K X.mg X.base := I.ok.mod
theorem Inv.kIn (I : Inv X pins σ H s) : X.K.In s.heap := I.ok.mod.kin.keeps I.bk
theorem Inv.nolimit (I : Inv X pins σ H s) : s.heap.NoLimit := I.ok.mod.nolimit.keeps I.bk
/-- the frame over the base: for OpenK's rules (K.In X.base is I.mod.kin) -/
theorem Inv.fr (I : Inv X pins σ H s) : ∃ m, Fr X.base X.env.locals s.heap m :=
  let ⟨m, hn, _⟩ := I.loc
  ⟨m, hn, I.bk, Nat.le_trans I.ok.bsz I.ok.above⟩
theorem Inv.lt (I : Inv X pins σ H s) : X.env.locals < s.heap.objs.size := let ⟨_, hn, _⟩ := I.loc; hn.lt
theorem Inv.sz (I : Inv X pins σ H s) : X.s₀.heap.objs.size ≤ s.heap.objs.size := Nat.le_trans I.ok.above (Nat.le_of_lt I.lt)
theorem Inv.nofs (I : Inv X pins σ H s) {a : Addr} (h : s.heap.objs.size ≤ a) : a ∉ X.fs := fun hb => by
  obtain ⟨_, o, ho, _⟩ := I.ok.funs.mem hb
  exact absurd (Nat.lt_of_lt_of_le (Heap.lt_size ho) (Nat.le_trans I.sz h)) (Nat.lt_irrefl _)
theorem Inv.cne (I : Inv X pins σ H s) : ∀ x c, X.env.cells.lookup x = some c → c ≠ X.env.locals := fun x c e z => by
  obtain ⟨v, o, ho, hd⟩ := I.cell x c e
  obtain ⟨m, ⟨o', es, ep, ho', hd', _⟩, _⟩ := I.loc
  rw [z, ho'] at ho; cases ho; rw [hd'] at hd; cases hd
theorem Inv.funs (I : Inv X pins σ H s) : s.heap.FunFrames X.base X.outer := by
  have all : ∀ (l : List Env), (∀ b ∈ frs l, b ∈ X.fs) → X.s₀.heap.FunFrames X.base l → s.heap.FunFrames X.base l := by
    intro l
    induction l with
    | nil => intro _ _; trivial
    | cons env r ih =>
      intro hs hl
      obtain ⟨hk, ⟨L, o, hf, hn, ho, hd⟩, hr⟩ := hl
      have hL : L ∈ X.fs := hs L (by unfold frs; rw [List.filterMap_cons, hf]; exact List.mem_cons_self)
      obtain ⟨sl, e⟩ := I.base.slot L o ho (I.ok.frf L hL) hL fun z => I.ok.exfs L z hL
      exact ⟨hk, ⟨L, _, hf, hn, e, hd⟩, ih (fun b hb => hs b (by unfold frs; rw [List.filterMap_cons, hf]; exact List.mem_cons_of_mem _ hb)) hr⟩
  exact all X.outer (fun _ hb => hb) I.ok.funs
/-- the frames that run, for a call -/
theorem Inv.stack (I : Inv X pins σ H s) : s.heap.FunFrames X.base X.stack := by
  rcases I.ok.stk with e | ⟨e, hf⟩
  · rw [e]; exact I.funs
  · rw [e]
    obtain ⟨m, hn, _⟩ := I.loc
    refine .cons (by rw [I.ok.kind]; decide) hf hn ?_ I.funs
    exact Heap.get?_none_of_le (Nat.le_trans I.ok.bsz I.ok.above)
theorem Inv.stkSub (I : Inv X pins σ H s) : ∀ b ∈ frs X.stack, b ∈ X.env.locals :: X.fs := fun b hb => by
  rcases I.ok.stk with e | ⟨e, hf⟩
  · rw [e] at hb; exact List.mem_cons_of_mem _ hb
  · rw [e] at hb
    unfold frs at hb
    rw [List.filterMap_cons, hf] at hb
    exact hb
theorem Inv.stkFree (I : Inv X pins σ H s) : ∀ b ∈ frs X.stack, H b = none := fun b hb => by
  rcases List.mem_cons.mp (I.stkSub b hb) with e | hb
  · rw [e]; exact I.free
  · obtain ⟨_, o, ho, _⟩ := I.ok.funs.mem hb
    exact I.base.free b o ho (I.ok.frf b hb) fun z => I.ok.exfs b z hb
/-- THE STEP: the untracked objects but the frame and the records at ch are kept (the callers' frames up to slots), the frame's map is kept, the new abstract heap is held -/
theorem Inv.step {g' : Array GenState} {t' : Nat} {d' : Drawn} {ch : List Addr} (I : Inv X pins σ H s)
    (hch : ∀ b ∈ ch, (b ∈ X.ex ∨ X.s₀.heap.objs.size ≤ b) ∧ b ≠ X.env.locals ∧ (∀ x c, X.env.cells.lookup x = some c → c ≠ b) ∧ ∀ p ∈ X.pn ++ pins, p.1 ≠ b)
    (keep : ∀ b o, b ≠ X.env.locals → b ∉ X.fs → b ∉ ch → s.heap.get? b = some o → H b = none → h'.get? b = some o)
    (slot : ∀ b o, b ≠ X.env.locals → b ∈ X.fs → b ∉ ch → s.heap.get? b = some o → H b = none → ∃ sl, h'.get? b = some { o with slots := sl }) (free : ∀ b o, b ∉ ch → s.heap.get? b = some o → H b = none → H' b = none)
    (there : ∀ b o, b ∉ ch → s.heap.get? b = some o → ∃ o', h'.get? b = some o')
    (tups : ∀ b xs, H b = some (.tup xs) → H' b = some (.tup xs)) (frzs : ∀ b o u, H b = some (.frz o u) → H' b = some (.frz o u)) (tbls : ∀ b ps, H b = some (.tbl ps) → ∃ more, H' b = some (.tbl (ps ++ more)))
    (ns : ∀ m, s.heap.Ns X.env.locals m → h'.Ns X.env.locals m) (hok : HOk X.prog X.w H' h') (hg : AllBare g') :
    Inv X pins σ H' { s with heap := h', gens := g', drawn := d', toks := t' } := by
  have neL : ∀ b o, X.s₀.heap.get? b = some o → b ≠ X.env.locals := fun b o e => Nat.ne_of_lt (Nat.lt_of_lt_of_le (Heap.lt_size e) I.ok.above)
  have neC : ∀ b o, X.s₀.heap.get? b = some o → b ∉ X.ex → b ∉ ch := fun b o e hx hb => by
    rcases (hch b hb).1 with z | z
    · exact hx z
    · exact absurd (Nat.lt_of_lt_of_le (Heap.lt_size e) z) (Nat.lt_irrefl _)
  have cellK : ∀ x c, X.env.cells.lookup x = some c → ∀ v, s.heap.IsCell c v → h'.IsCell c v := fun x c e v ⟨o, ho, hd⟩ => by
    have nch : c ∉ ch := fun z => (hch c z).2.2.1 x c e rfl
    by_cases hc : c ∈ X.fs
    · obtain ⟨sl, q⟩ := slot c o (I.cne x c e) hc nch ho (I.freeC x c e)
      exact ⟨_, q, hd⟩
    · exact ⟨o, keep c o (I.cne x c e) hc nch ho (I.freeC x c e), hd⟩
  refine ⟨I.ok, I.os, hg, ⟨fun b o e n hb hx => ?_, fun b o e n hb hx => ?_, fun b o e n hx => ?_, fun b o e hx => ?_, fun b xs e => tups b xs (I.base.tups b xs e), fun b o xs e => frzs b o xs (I.base.frzs b o xs e), fun b ps e => ?_⟩, ?_, fun x c e => ?_, ?_, fun x c e => ?_, fun p hp => ?_, hok, I.len⟩
  · exact keep b o (neL b o e) hb (neC b o e hx) (I.base.keep b o e n hb hx) (I.base.free b o e n hx)
  · obtain ⟨sl, e1⟩ := I.base.slot b o e n hb hx
    obtain ⟨sl', e2⟩ := slot b _ (neL b o e) hb (neC b o e hx) e1 (I.base.free b o e n hx)
    exact ⟨sl', e2⟩
  · obtain ⟨o', e1⟩ := I.base.there b o e hx
    exact free b o' (neC b o e hx) e1 (I.base.free b o e n hx)
  · obtain ⟨o', e1⟩ := I.base.there b o e hx
    exact there b o' (neC b o e hx) e1
  · obtain ⟨m1, e1⟩ := I.base.tbls b ps e
    obtain ⟨m2, e2⟩ := tbls b _ e1
    exact ⟨m1 ++ m2, by rw [e2, Array.append_assoc]⟩
  · obtain ⟨m, hn, hl⟩ := I.loc
    refine ⟨m, ns m hn, fun i x v e1 e2 e3 => ?_⟩
    obtain ⟨u, r, l⟩ := hl i x v e1 e2 e3
    refine ⟨u, r, ?_⟩
    rcases l with l | ⟨k, c, e, z⟩
    · exact .inl l
    · exact .inr ⟨k, c, e, cellK x c e _ z⟩
  · obtain ⟨v, z⟩ := I.cell x c e
    exact ⟨v, cellK x c e v z⟩
  · obtain ⟨m, ⟨o, _, _, ho, _⟩, _⟩ := I.loc
    exact free _ o (fun z => (hch _ z).2.1 rfl) ho I.free
  · obtain ⟨v, o, ho, hd⟩ := I.cell x c e
    exact free c o (fun z => (hch c z).2.2.1 x c e rfl) ho (I.freeC x c e)
  · obtain ⟨e, n, ne, nf, d⟩ := I.pin p hp
    have nch : p.1 ∉ ch := fun z => (hch p.1 z).2.2.2 p hp rfl
    exact ⟨keep p.1 p.2 ne nf nch e n, free p.1 p.2 nch e n, ne, nf, d⟩
/-- .. where the frame's own object is kept too -/
theorem Inv.un {t' : Nat} (I : Inv X pins σ H s) (u : Un X.fs [] H H' s.heap h') (hok : HOk X.prog X.w H' h') : Inv X pins σ H' { s with heap := h', toks := t' } := by
  obtain ⟨m, ⟨o, es, ep, ho, r⟩, _⟩ := id I.loc
  obtain ⟨sl, hL⟩ := u.any ho I.free (by simp)
  exact I.step (g' := s.gens) (d' := s.drawn) (ch := []) (fun _ z => nomatch z) (fun b o _ hb _ e n => u.keep b o e n hb (by simp)) (fun b o _ hb _ e n => u.slot b o e n hb (by simp)) (fun b o _ e n => u.free b o e n (by simp)) (fun b o _ e => u.there b o e (by simp)) u.tups u.frzs u.tbls (fun m' hm => by
    obtain ⟨o', es', ep', ho', r'⟩ := hm
    rw [ho] at ho'; cases ho'
    exact ⟨_, es', ep', hL, r'⟩) hok I.bare
/-- behind a call (or a comprehension's block): the slots of this frame may have changed too, the records at ch may have turned -/
theorem Inv.call {g' : Array GenState} {t' : Nat} {d' : Drawn} {ch : List Addr} (I : Inv X pins σ H s) (u : Un (frs X.stack) ch H H' s.heap h') (hok : HOk X.prog X.w H' h') (hg : AllBare g')
    (hch : ∀ b ∈ ch, (b ∈ X.ex ∨ X.s₀.heap.objs.size ≤ b) ∧ b ≠ X.env.locals ∧ (∀ x c, X.env.cells.lookup x = some c → c ≠ b) ∧ ∀ p ∈ X.pn ++ pins, p.1 ≠ b) :
    Inv X pins σ H' { s with heap := h', gens := g', drawn := d', toks := t' } := by
  obtain ⟨m, ⟨o, es, ep, ho, r⟩, _⟩ := id I.loc
  obtain ⟨sl, hL⟩ := u.any ho I.free fun z => (hch _ z).2.1 rfl
  exact I.step (ch := ch) hch (fun b o hL hb hc e n => u.keep b o e n (fun z => (List.mem_cons.mp (I.stkSub b z)).elim hL hb) hc) (fun b o _ _ hc e n => u.any e n hc) (fun b o hc e n => u.free b o e n hc) (fun b o hc e => u.there b o e hc) u.tups u.frzs u.tbls (fun m' hm => by
    obtain ⟨o', es', ep', ho', r'⟩ := hm
    rw [ho] at ho'; cases ho'
    exact ⟨_, es', ep', hL, r'⟩) hok hg
/-- an untracked record of ours (an iterator) has turned -/
theorem Inv.turned {t' : Nat} {it : Addr} (I : Inv X pins σ H s) (k : ∀ b o, b ≠ it → s.heap.get? b = some o → h'.get? b = some o) (hn : H it = none) (hL : it ≠ X.env.locals)
    (h1 : it ∈ X.ex ∨ X.s₀.heap.objs.size ≤ it) (h2 : ∀ x c, X.env.cells.lookup x = some c → c ≠ it) (h3 : ∀ p ∈ X.pn ++ pins, p.1 ≠ it) : Inv X pins σ H { s with heap := h', toks := t' } := by
  have nit : ∀ b u, H b = some u → b ≠ it := fun b u e z => by rw [z, hn] at e; cases e
  refine I.step (g' := s.gens) (d' := s.drawn) (ch := [it]) (fun b hb => ?_) (fun b o _ _ hc e _ => k b o (fun z => hc (by simp [z])) e) (fun b o _ _ hc e _ => ⟨o.slots, k b o (fun z => hc (by simp [z])) e⟩) (fun _ _ _ _ n => n)
    (fun b o hc e => ⟨o, k b o (fun z => hc (by simp [z])) e⟩) (fun _ _ e => e) (fun _ _ _ e => e) (fun b ps e => ⟨#[], by rw [e]; simp⟩) (fun m hm => ?_) (fun b u e => ?_) I.bare
  · have e : b = it := by simpa using hb
    subst e
    exact ⟨h1, hL, h2, h3⟩
  · obtain ⟨o, es, ep, ho, r⟩ := hm
    exact ⟨o, es, ep, k _ o (Ne.symm hL) ho, r⟩
  · refine (I.hok b u e).stay (fun c v hc q => k c v ?_ q) (fun _ q => q) fun _ _ q => q
    rcases hc with z | z
    · rw [z]; exact nit b u e
    · exact nit c _ z
theorem Inv.tok (I : Inv X pins σ H s) (t : Nat) : Inv X pins σ H { s with toks := t } := I.un (h' := s.heap) (t' := t) Un.refl I.hok
/-- all objects kept -/
theorem Inv.kept {t' : Nat} (I : Inv X pins σ H s) (k : ∀ b u, s.heap.get? b = some u → h'.get? b = some u) : Inv X pins σ H { s with heap := h', toks := t' } := I.un (Un.kept k) (I.hok.kept k)
/-- a new object laid and tracked -/
theorem Inv.laid {a : Addr} {o : HO} {t' : Nat} (I : Inv X pins σ H s) (k : ∀ b u, s.heap.get? b = some u → h'.get? b = some u) (hp : s.heap.objs.size ≤ a) (new : ObjOk X.prog X.w (upd H a o) h' a o) :
    Inv X pins σ (upd H a o) { s with heap := h', toks := t' } := I.un (Un.laid k hp (I.hok.fresh hp)) (I.hok.laid k hp new)
/-- an object written -/
theorem Inv.write {x e : Addr} {o : HO} {t' : Nat} (I : Inv X pins σ H s) (mu : Mut (H x)) (he : e = x ∨ H e = some (.own x)) (k : ∀ b u, b ≠ e → s.heap.get? b = some u → h'.get? b = some u) (heo : ∃ u, h'.get? e = some u)
    (new : ObjOk X.prog X.w (upd H x o) h' x o) : Inv X pins σ (upd H x o) { s with heap := h', toks := t' } := I.un (Un.write mu he k heo) (I.hok.write mu he k heo new)
theorem Inv.pins_of {pins' : List (Addr × Obj)} (I : Inv X pins σ H s) (h : ∀ p ∈ pins', s.heap.get? p.1 = some p.2 ∧ H p.1 = none ∧ p.1 ≠ X.env.locals ∧ p.1 ∉ X.fs ∧ ∀ v, p.2.data ≠ .cell v) : Inv X pins' σ H s :=
  ⟨I.ok, I.os, I.bare, I.base, I.loc, I.cell, I.free, I.freeC, fun p hp => (List.mem_append.mp hp).elim (fun z => I.pin p (List.mem_append_left _ z)) (h p), I.hok, I.len⟩
theorem nodup_ix {N : List Str} (hN : N.Nodup) {i j : Nat} {x : Str} (a : N[i]? = some x) (b : N[j]? = some x) : i = j := by
  obtain ⟨h1, e1⟩ := List.getElem?_eq_some_iff.mp a
  obtain ⟨h2, e2⟩ := List.getElem?_eq_some_iff.mp b
  exact (List.getElem_inj hN).mp (e1.trans e2.symm)
/-- a name is stored; what changed -/
theorem store_ok2 {M : Model} {A : Around} {E : Value → Shared → Prop} {i : Nat} {x : Str} {v : V} {u : Value} {Q : Unit → Shared → Prop} (I : Inv X pins σ H s) (hN : X.N.Nodup) (hi : X.N[i]? = some x) (hx : Loc X.env.scope x) (r : RelV v u)
    (h : ∀ s', Inv X pins (σ.set i (some v)) H s' → (∃ a, Heap.SameBut a s.heap s'.heap ∧ (a = X.env.locals ∨ X.env.cells.lookup x = some a)) → Q () s') (hf : X.fn x = true ∨ X.env.scope.names.lookup x = some .local := by first | exact .inl rfl | exact .inr rfl | assumption) : wpAny M A (storeName X.env x u) Q E s := by
  obtain ⟨m, hn, hl⟩ := id I.loc
  have hcls : (X.env.scope.kind == .class || (X.env.scope.kind == .module && X.env.locals != X.env.globals)) = false := by rw [I.ok.kind]; rfl
  have hiσ : i < σ.length := by rw [I.len]; exact (List.getElem?_eq_some_iff.mp hi).1
  have cne := I.cne
  have tracked : ∀ {a : Addr} {h' : Heap}, (∃ o, s.heap.get? a = some o ∧ H a = none) → Heap.SameBut a s.heap h' → HOk X.prog X.w H h' := fun {a h'} ha hs b ob e => by
    obtain ⟨_, _, hfree⟩ := ha
    refine (I.hok b ob e).stay (fun c w' hc q => (hs.2 c ?_).trans q) (fun _ q => q) fun _ _ q => q
    rintro rfl
    rcases hc with rfl | hc
    · rw [hfree] at e; cases e
    · rw [hfree] at hc; cases hc
  rcases hx with hk | hk
  · refine wpAny_storeName_local hk hn (fun h' hn' hs => ?_) hcls
    obtain ⟨oL, _, _, hoL, _⟩ := id hn
    refine h _ ⟨I.ok, I.os, I.bare, ⟨fun b o e n hb hx => ?_, fun b o e n hb hx => ?_, I.base.free, fun b o e hx => ?_, I.base.tups, I.base.frzs, I.base.tbls⟩, ⟨_, hn', fun j y v' e1 e2 e3 => ?_⟩, fun y c e => ?_, I.free, I.freeC, fun p hp => ?_, tracked ⟨oL, hoL, I.free⟩ hs, by simpa using I.len⟩ ⟨_, hs, .inl rfl⟩
    · exact (hs.2 b (Nat.ne_of_lt (Nat.lt_of_lt_of_le (Heap.lt_size e) I.ok.above))).trans (I.base.keep b o e n hb hx)
    · obtain ⟨sl, e1⟩ := I.base.slot b o e n hb hx
      exact ⟨sl, (hs.2 b (Nat.ne_of_lt (Nat.lt_of_lt_of_le (Heap.lt_size e) I.ok.above))).trans e1⟩
    · obtain ⟨o', e1⟩ := I.base.there b o e hx
      exact ⟨o', (hs.2 b (Nat.ne_of_lt (Nat.lt_of_lt_of_le (Heap.lt_size e) I.ok.above))).trans e1⟩
    · by_cases hj : j = i
      · subst hj
        rw [hi] at e1; cases e1
        rw [List.getElem?_set_self hiσ] at e2
        cases e2
        exact ⟨u, r, .inl ⟨hk, by simp⟩⟩
      · rw [List.getElem?_set_ne (Ne.symm hj)] at e2
        obtain ⟨u', r', q⟩ := hl j y v' e1 e2 e3
        refine ⟨u', r', ?_⟩
        rcases q with ⟨k, e⟩ | ⟨k, c, e, z⟩
        · refine .inl ⟨k, ?_⟩
          have : y ≠ x := fun e => hj (nodup_ix hN e1 (e ▸ hi))
          simp [this, e]
        · exact .inr ⟨k, c, e, z.sameBut hs (cne y c e)⟩
    · obtain ⟨w', z⟩ := I.cell y c e
      exact ⟨w', z.sameBut hs (cne y c e)⟩
    · obtain ⟨e, n, ne, nf, d⟩ := I.pin p hp
      exact ⟨(hs.2 p.1 ne).trans e, n, ne, nf, d⟩
  · have hfn : X.fn x = true := by
      rcases hf with z | z
      · exact z
      · rw [z] at hk; cases hk
    obtain ⟨c, hc⟩ := I.ok.has x (.inl hk)
    obtain ⟨w', z⟩ := I.cell x c hc
    refine wpAny_storeName_cell I.ok.kind hk hc z (fun h' hc' hs => ?_)
    obtain ⟨oc, hoc, hocd⟩ := id z
    refine h { s with heap := h' } ⟨I.ok, I.os, I.bare, ⟨fun b o e n hb hx => ?_, fun b o e n hb hx => ?_, I.base.free, fun b o e hx => ?_, I.base.tups, I.base.frzs, I.base.tbls⟩, ⟨m, hn.sameBut hs (Ne.symm (cne x c hc)), fun j y v' e1 e2 e3 => ?_⟩, fun y c' e => ?_, I.free, I.freeC, fun p hp => ?_, tracked ⟨oc, hoc, I.freeC x c hc⟩ hs, by simpa using I.len⟩ ⟨c, hs, .inr hc⟩
    · exact (hs.2 b (Nat.ne_of_lt (Nat.lt_of_lt_of_le (Heap.lt_size e) (I.ok.cab x c hfn hc)))).trans (I.base.keep b o e n hb hx)
    · obtain ⟨sl, e1⟩ := I.base.slot b o e n hb hx
      exact ⟨sl, (hs.2 b (Nat.ne_of_lt (Nat.lt_of_lt_of_le (Heap.lt_size e) (I.ok.cab x c hfn hc)))).trans e1⟩
    · obtain ⟨o', e1⟩ := I.base.there b o e hx
      exact ⟨o', (hs.2 b (Nat.ne_of_lt (Nat.lt_of_lt_of_le (Heap.lt_size e) (I.ok.cab x c hfn hc)))).trans e1⟩
    · by_cases hj : j = i
      · subst hj
        rw [hi] at e1; cases e1
        rw [List.getElem?_set_self hiσ] at e2
        cases e2
        exact ⟨u, r, .inr ⟨.inl hk, c, hc, hc'⟩⟩
      · rw [List.getElem?_set_ne (Ne.symm hj)] at e2
        obtain ⟨u', r', q⟩ := hl j y v' e1 e2 e3
        refine ⟨u', r', ?_⟩
        rcases q with q | ⟨k, c', e, z'⟩
        · exact .inl q
        · refine .inr ⟨k, c', e, z'.sameBut hs ?_⟩
          rintro rfl
          exact hj (nodup_ix hN e1 (I.ok.inj _ _ _ e hc ▸ hi))
    · by_cases hcc : c' = c
      · subst hcc; exact ⟨_, hc'⟩
      · obtain ⟨w2, z2⟩ := I.cell y c' e
        exact ⟨w2, z2.sameBut hs hcc⟩
    · obtain ⟨e, n, ne, nf, d⟩ := I.pin p hp
      refine ⟨(hs.2 p.1 ?_).trans e, n, ne, nf, d⟩
      intro q
      rw [q, hoc] at e
      have q' : oc = p.2 := Option.some.inj e
      exact d w' (by rw [← q']; exact hocd)
theorem store_ok {M : Model} {A : Around} {E : Value → Shared → Prop} {i : Nat} {x : Str} {v : V} {u : Value} {Q : Unit → Shared → Prop} (I : Inv X pins σ H s) (hN : X.N.Nodup) (hi : X.N[i]? = some x) (hx : Loc X.env.scope x) (r : RelV v u)
    (h : ∀ s', Inv X pins (σ.set i (some v)) H s' → Q () s') (hf : X.fn x = true ∨ X.env.scope.names.lookup x = some .local := by first | exact .inl rfl | exact .inr rfl | assumption) : wpAny M A (storeName X.env x u) Q E s :=
  store_ok2 I hN hi hx r (fun s' I' _ => h s' I') hf
/-- behind a call or a block, the state as it is -/
theorem Inv.call' {s' : Shared} {ch : List Addr} (I : Inv X pins σ H s) (ho : s'.os = s.os) (u : Un (frs X.stack) ch H H' s.heap s'.heap) (hok : HOk X.prog X.w H' s'.heap) (hg : AllBare s'.gens)
    (hch : ∀ b ∈ ch, (b ∈ X.ex ∨ X.s₀.heap.objs.size ≤ b) ∧ b ≠ X.env.locals ∧ (∀ x c, X.env.cells.lookup x = some c → c ≠ b) ∧ ∀ p ∈ X.pn ++ pins, p.1 ≠ b) : Inv X pins σ H' s' := by
  obtain ⟨h', g', d', t', o'⟩ := s'
  have e : o' = s.os := ho
  subst e
  exact I.call (g' := g') (t' := t') (d' := d') u hok hg hch
end
/-! ### the judgements -/
/-- an exception: its class, its own dict's address (where it has one), the abstract heap behind it -/
abbrev XK := Value → Option Addr → Hp → Prop
abbrev St := List (Option V)
abbrev VK := V → Hp → Prop
/-- an expression's reading; a test's; an argument list's -/
abbrev TE := St → Hp → VK → Prop
abbrev TT := St → Hp → (Bool → Hp → Prop) → Prop
abbrev TA := St → Hp → (List V → Hp → Prop) → Prop
/-- what is wanted behind a statement -/
structure Ends where
  nx : St → Hp → Prop
  rt : VK
  bk : St → Hp → Prop := fun _ _ => False
  ct : St → Hp → Prop := fun _ _ => False
abbrev TS := Ends → St → Hp → Prop
def EP (X : Cx) (pins : List (Addr × Obj)) (σ : St) (Q : VK) (u : Value) (s' : Shared) : Prop := ∃ v H', Inv X pins σ H' s' ∧ RelV v u ∧ Q v H'
def TP (X : Cx) (pins : List (Addr × Obj)) (σ : St) (Q : Bool → Hp → Prop) (b : Bool) (s' : Shared) : Prop := ∃ H', Inv X pins σ H' s' ∧ Q b H'
def AP (X : Cx) (pins : List (Addr × Obj)) (σ : St) (Q : List V → Hp → Prop) (us : List Value) (s' : Shared) : Prop := ∃ vs H', Inv X pins σ H' s' ∧ Vals vs us ∧ Q vs H'
def SP (X : Cx) (pins : List (Addr × Obj)) (D : Ends) (f : Flow) (s' : Shared) : Prop :=
  match f with
  | .next => ∃ σ' H', Inv X pins σ' H' s' ∧ D.nx σ' H'
  | .brk => ∃ σ' H', Inv X pins σ' H' s' ∧ D.bk σ' H'
  | .cont => ∃ σ' H', Inv X pins σ' H' s' ∧ D.ct σ' H'
  | .ret u => ∃ v σ' H', Inv X pins σ' H' s' ∧ RelV v u ∧ D.rt v H'
def PE (X : Cx) (e : Expr) (t : TE) : Prop :=
  ∀ (pins : List (Addr × Obj)) (s : Shared) (σ : St) (H : Hp) (Q : VK), Inv X pins σ H s → t σ H Q → wpAny (model X.prog X.w) X.A (eval e X.env) (EP X pins σ Q) X.xe s
def PT (X : Cx) (e : Expr) (t : TT) : Prop :=
  ∀ (pins : List (Addr × Obj)) (s : Shared) (σ : St) (H : Hp) (Q : Bool → Hp → Prop), Inv X pins σ H s → t σ H Q → wpAny (model X.prog X.w) X.A (isTrue e X.env (eval e X.env)) (TP X pins σ Q) X.xe s
/-- a test whatever its 'whole' is (and, or) -/
def PW (X : Cx) (e : Expr) (t : TT) : Prop :=
  ∀ (whole : Sem Value) (pins : List (Addr × Obj)) (s : Shared) (σ : St) (H : Hp) (Q : Bool → Hp → Prop), Inv X pins σ H s → t σ H Q → wpAny (model X.prog X.w) X.A (isTrue e X.env whole) (TP X pins σ Q) X.xe s
theorem PW.pt {X : Cx} {e : Expr} {t : TT} (h : PW X e t) : PT X e t := h _
/-- an argument list (no star), from the left -/
def PA (X : Cx) (es : List Expr) (t : TA) : Prop :=
  ∀ (pos : Pos) (pins : List (Addr × Obj)) (s : Shared) (σ : St) (H : Hp) (Q : List V → Hp → Prop), Inv X pins σ H s → t σ H Q → wpAny (model X.prog X.w) X.A (spliced (backTo pos (starEach es X.env))) (AP X pins σ Q) X.xe s
def PS (X : Cx) (st : Stmt) (t : TS) : Prop :=
  ∀ (pins : List (Addr × Obj)) (s : Shared) (σ : St) (H : Hp) (D : Ends), Inv X pins σ H s → t D σ H → wpAny (model X.prog X.w) X.A (exec st X.env) (SP X pins D) X.xe s
def PSs (X : Cx) (st : List Stmt) (t : TS) : Prop :=
  ∀ (pins : List (Addr × Obj)) (s : Shared) (σ : St) (H : Hp) (D : Ends), Inv X pins σ H s → t D σ H → wpAny (model X.prog X.w) X.A (execs st X.env) (SP X pins D) X.xe s
/-- weaken the end -/
theorem thn {α : Type} {t : Sem α} {Q Q' : α → Shared → Prop} {M : Model} {A : Around} {E : Value → Shared → Prop} {s : Shared} (h : wpAny M A t Q E s) (hQ : ∀ a s, Q a s → Q' a s) : wpAny M A t Q' E s := wpAny_mono h hQ fun _ _ x => x
end L2
namespace L2
open PySem PySem.Spec PyProof.Rows
section
variable {X : Cx}
/-! ### names and constants -/
def tVar (i : Nat) : TE := fun σ H Q => ∃ v, σ[i]? = some (some v) ∧ Q v H
def tC (v : V) : TE := fun _ H Q => Q v H
theorem pe_var {i : Nat} {x : Str} {pos : Pos} (hN : X.N[i]? = some x) (hv : Vis X.env.scope x) (hd : (x == ("__debug__" : Str)) = false := by decide) (hcd : (x == ("__classdict__" : Str)) = false := by decide) : PE X (.Name x pos) (tVar i) := by
  intro pins s σ H Q I h
  obtain ⟨v, e, h⟩ := h
  obtain ⟨m, hn, hl⟩ := I.loc
  obtain ⟨u, r, l⟩ := hl i x v hN e hv
  have fin : EP X pins σ Q u s := ⟨v, H, I, r, h⟩
  rcases l with ⟨hk, hm⟩ | ⟨hk, c, hc, hcell⟩
  · exact wpAny_Name (wpAny_loadName_local I.ok.kind hk hn hm fin) hd
  · rcases hk with hk | hk
    · exact wpAny_Name (wpAny_loadName_cell I.ok.kind hk hc hcell fin) hd
    · exact wpAny_Name (wpAny_loadName_free I.ok.kind hk hc hcell fin hcd) hd
theorem pe_int {i j pos} : PE X (.Constant (.int i) j pos) (tC (.int i)) := fun _ _ _ H _ I h => wpAny_Constant_int ⟨.int i, H, I.tok _, ⟨_, rfl⟩, h⟩
theorem pe_bl {b j pos} : PE X (.Constant (.bool b) j pos) (tC (.bl b)) := fun _ _ _ H _ I h => Constant_bool ⟨.bl b, H, I, rfl, h⟩
theorem pe_non {j pos} : PE X (.Constant .none j pos) (tC .non) := fun _ _ _ H _ I h => Constant_none ⟨.non, H, I, rfl, h⟩
/-- a global name of the def -/
def Gl (X : Cx) (x : Str) : Prop := X.env.kindOf x = some .globalImplicit
theorem ld_glob {E : Value → Shared → Prop} {pins : List (Addr × Obj)} {s : Shared} {σ : St} {H : Hp} {x : Str} {u : Value} {pos : Pos} {Q : Value → Shared → Prop} (I : Inv X pins σ H s) (hg : Gl X x) (hm : X.mg x = some u) (h : Q u s)
    (hd : (x == ("__debug__" : Str)) = false := by decide) : wpAny (model X.prog X.w) X.A (eval (.Name x pos) X.env) Q E s :=
  Calls.Name_function_global I.ok.kind hg (Calls.loadGlobal_global (by rw [I.ok.glob]; exact I.mod.glob.keeps I.bk) hm h) hd
theorem ld_blt {E : Value → Shared → Prop} {pins : List (Addr × Obj)} {s : Shared} {σ : St} {H : Hp} {x : Str} {u : Value} {pos : Pos} {Q : Value → Shared → Prop} (I : Inv X pins σ H s) (hg : Gl X x) (hm : X.mg x = none) (hv : bootBuiltins x = some u) (h : Q u s)
    (hn : x ≠ "__name__" := by decide) (hd : (x == ("__debug__" : Str)) = false := by decide) : wpAny (model X.prog X.w) X.A (eval (.Name x pos) X.env) Q E s := by
  obtain ⟨mb, h1, h2⟩ := I.mod.blt
  exact Calls.Name_function_global I.ok.kind hg (Calls.loadGlobal_builtin (by rw [I.ok.glob]; exact I.mod.glob.keeps I.bk) hm (by rw [I.ok.blt]; exact h1.keeps I.bk) ((h2 x hn).trans hv) h) hd
/-- a module's constant, a class, a function, as a value -/
theorem pe_glob {x : Str} {v : V} {u : Value} {pos : Pos} (hg : Gl X x) (hm : X.mg x = some u) (r : RelV v u) (hd : (x == ("__debug__" : Str)) = false := by decide) : PE X (.Name x pos) (tC v) :=
  fun _ _ _ H _ I h => ld_glob I hg hm ⟨v, H, I, r, h⟩ hd
theorem pe_bltn {x : Str} {v : V} {u : Value} {pos : Pos} (hg : Gl X x) (hm : X.mg x = none) (hv : bootBuiltins x = some u) (r : RelV v u) (hn : x ≠ "__name__" := by decide) (hd : (x == ("__debug__" : Str)) = false := by decide) : PE X (.Name x pos) (tC v) :=
  fun _ _ _ H _ I h => ld_blt I hg hm hv ⟨v, H, I, r, h⟩ hn hd
/-! ### arithmetic -/
variable {a b : Expr} {ta tb : TE} {pos : Pos}
/-! ### comparisons -/
/-! ### and, or, not -/
variable {tA tB' : TT} {rest : List Expr}
def tOr (t u : TT) : TT := fun σ H Q => t σ H fun c H1 => if c = true then Q true H1 else u σ H1 Q
def tNot (t : TT) : TT := fun σ H Q => t σ H fun c H1 => Q (!c) H1
theorem pw_or1 (ha : PT X a tA) : PW X (.BoolOp .Or [a] pos) tA := by
  intro wh pins s σ H Q I h
  refine isTrue_or (thn (ha pins s σ H Q I h) fun c s1 e => ?_)
  cases c with
  | false => exact isTrue_or_nil e
  | true => exact e
theorem pw_or (ha : PT X a tA) (hb : PW X (.BoolOp .Or (b :: rest) pos) tB') : PW X (.BoolOp .Or (a :: b :: rest) pos) (tOr tA tB') := by
  intro wh pins s σ H Q I h
  refine isTrue_or (thn (ha pins s σ H _ I h) fun c s1 ⟨H1, I1, q1⟩ => ?_)
  cases c with
  | true => exact ⟨H1, I1, q1⟩
  | false => exact hb wh pins s1 σ H1 Q I1 q1
theorem pt_not (ha : PT X a tA) : PT X (.UnaryOp .Not a pos) (tNot tA) := by
  intro pins s σ H Q I h
  exact isTrue_not (ha pins s σ H (fun c H1 => Q (!c) H1) I h)
/-- .. as values (bools) -/
def tAndV (ta tb : TE) : TE := fun σ H Q => ta σ H fun x H1 => ∃ c, x = .bl c ∧ if c = true then tb σ H1 Q else Q (.bl false) H1
theorem pe_one {op} {t : TE} (h : PE X a t) : PE X (.BoolOp op [a] pos) t := fun pins s σ H Q I hw => BoolOp_one (h pins s σ H Q I hw)
theorem pe_and (ha : PE X a ta) (hb : PE X (.BoolOp .And (b :: rest) pos) tb) : PE X (.BoolOp .And (a :: b :: rest) pos) (tAndV ta tb) := by
  intro pins s σ H Q I h
  refine BoolOp_and (thn (ha pins s σ H _ I h) fun v s1 ⟨x, H1, I1, r1, q1⟩ => ?_)
  obtain ⟨c, rfl, q1⟩ := q1
  cases r1
  refine wpAny_truthy_bool ?_
  cases c with
  | true => exact hb pins s1 σ H1 Q I1 q1
  | false => exact ⟨.bl false, H1, I1, rfl, q1⟩
end
end L2
namespace L2
open PySem PySem.Spec PyProof.Rows
/-! ### a list, a tuple that is read: tracked, frozen, or an object of the module -/
def SqL (K : PySem.W.Frag) (H : Hp) (a : Addr) (xs : List V) : Prop :=
  Rd H a (.lst xs) ∨
    ∃ (o : Obj) (its : Array Value) (n : Nat), K.lookup a = some o ∧ o.cls = .type "list" ∧ o.dict = none ∧ o.data = .seq its n ∧ its.size ≤ sizeLine ∧ Vals xs its.toList
def SqT (K : PySem.W.Frag) (H : Hp) (a : Addr) (xs : List V) : Prop :=
  Rd H a (.tup xs) ∨
    ∃ (o : Obj) (its : Array Value) (n : Nat), K.lookup a = some o ∧ o.cls = .type "tuple" ∧ o.data = .seq its n ∧ its.size ≤ sizeLine ∧ Vals xs its.toList
def absV : Value → Option V
  | .none => some .non
  | .bool b => some (.bl b)
  | .int i _ => some (.int i)
  | .str x _ => some (.str x)
  | .bytes b _ => some (.byt b)
  | .float b _ => some (.flt b)
  | .ref a => some (.ref a)
  | .type n => some (.ty n)
  | _ => none
theorem RelV.abs {x : V} {u : Value} (r : RelV x u) : absV u = some x := by
  cases x with
  | non => cases r; rfl
  | bl _ => cases r; rfl
  | int _ => obtain ⟨t, rfl⟩ := r; rfl
  | str _ => obtain ⟨t, rfl⟩ := r; rfl
  | byt _ => obtain ⟨t, rfl⟩ := r; rfl
  | flt _ => obtain ⟨t, rfl⟩ := r; rfl
  | ref _ => cases r; rfl
  | ty _ => cases r; rfl
theorem RelV.inj {x y : V} {u : Value} (r : RelV x u) (q : RelV y u) : x = y := Option.some.inj (r.abs.symm.trans q.abs)
theorem Vals.inj : ∀ {xs ys : List V} {us : List Value}, Vals xs us → Vals ys us → xs = ys
  | _, _, _, .nil, .nil => rfl
  | _, _, _, .cons r t, .cons r' t' => by rw [r.inj r', Vals.inj t t']
section
variable {X : Cx} {pins : List (Addr × Obj)} {σ : St} {H : Hp} {s : Shared} {a : Addr} {xs ys : List V}
theorem SqL.of {K : PySem.W.Frag} (h : H a = some (.lst xs)) : SqL K H a xs := .inl (.inl h)
theorem SqT.of {K : PySem.W.Frag} (h : H a = some (.tup xs)) : SqT K H a xs := .inl (.inl h)
theorem Inv.list (I : Inv X pins σ H s) (h : SqL X.K H a xs) : ∃ its : List Value, Vals xs its ∧ PlainL s.heap a its.toArray ∧ xs.length ≤ sizeLine := by
  rcases h with h | ⟨o, its, n, hk, hc, hd, hs, hz, r⟩
  · obtain ⟨z, its, n, r, e⟩ := h.ok I.hok
    exact ⟨its, r, ⟨_, n, e, rfl, rfl, rfl⟩, z⟩
  · refine ⟨its.toList, r, ⟨o, n, I.kIn a o hk, hc, hd, by simpa using hs⟩, ?_⟩
    have e := r.length
    simp only [Array.length_toList] at e
    omega
theorem Inv.tuple (I : Inv X pins σ H s) (h : SqT X.K H a xs) : ∃ its : List Value, Vals xs its ∧ IsTup s.heap a its.toArray ∧ xs.length ≤ sizeLine := by
  rcases h with h | ⟨o, its, n, hk, hc, hs, hz, r⟩
  · obtain ⟨z, its, r, p⟩ := h.ok I.hok
    exact ⟨its, r, p, z⟩
  · refine ⟨its.toList, r, ⟨o, I.kIn a o hk, hc, n, by simpa using hs⟩, ?_⟩
    have e := r.length
    simp only [Array.length_toList] at e
    omega
theorem Inv.list_inj (I : Inv X pins σ H s) (h : SqL X.K H a xs) (h' : SqL X.K H a ys) : xs = ys := by
  obtain ⟨its, r, ⟨o, n, e, _, _, d⟩, _⟩ := I.list h
  obtain ⟨its', r', ⟨o', n', e', _, _, d'⟩, _⟩ := I.list h'
  rw [e] at e'; cases e'
  rw [d] at d'
  injection d' with d1 _
  have : its = its' := by simpa using congrArg Array.toList d1
  subst this
  exact r.inj r'
theorem Inv.tuple_inj (I : Inv X pins σ H s) (h : SqT X.K H a xs) (h' : SqT X.K H a ys) : xs = ys := by
  obtain ⟨its, r, ⟨o, e, _, n, d⟩, _⟩ := I.tuple h
  obtain ⟨its', r', ⟨o', e', _, n', d'⟩, _⟩ := I.tuple h'
  rw [e] at e'; cases e'
  rw [d] at d'
  injection d' with d1 _
  have : its = its' := by simpa using congrArg Array.toList d1
  subst this
  exact r.inj r'
end
/-! ### another wish about exceptions -/
abbrev Cx.wish (X : Cx) (E : Value → Shared → Prop) : Cx := { X with xe := E }
/-- no exception leaves -/
abbrev Cx.nox (X : Cx) : Cx := X.wish fun _ _ => False
theorem Cx.Ok.wish {X : Cx} (ok : X.Ok) (E : Value → Shared → Prop) : (X.wish E).Ok :=
  ⟨ok.mod, ok.kind, ok.glob, ok.blt, ok.above, ok.inj, ok.has, ok.cab, ok.hd, ok.frames, ok.stk, ok.exf, ok.bs, ok.bsz, ok.noex, ok.exfs, ok.funs, ok.frf⟩
theorem Cx.Ok.unwish {X : Cx} {E : Value → Shared → Prop} (ok : (X.wish E).Ok) : X.Ok :=
  ⟨ok.mod, ok.kind, ok.glob, ok.blt, ok.above, ok.inj, ok.has, ok.cab, ok.hd, ok.frames, ok.stk, ok.exf, ok.bs, ok.bsz, ok.noex, ok.exfs, ok.funs, ok.frf⟩
section
variable {X : Cx} {pins : List (Addr × Obj)} {σ : St} {H : Hp} {s : Shared} {E : Value → Shared → Prop}
theorem Inv.wish (I : Inv X pins σ H s) (E : Value → Shared → Prop) : Inv (X.wish E) pins σ H s := ⟨I.ok.wish E, I.os, I.bare, I.base, I.loc, I.cell, I.free, I.freeC, I.pin, I.hok, I.len⟩
theorem Inv.unwish (I : Inv (X.wish E) pins σ H s) : Inv X pins σ H s := ⟨I.ok.unwish, I.os, I.bare, I.base, I.loc, I.cell, I.free, I.freeC, I.pin, I.hok, I.len⟩
theorem SP.unwish {D : Ends} {f : Flow} {s' : Shared} (h : SP (X.wish E) pins D f s') : SP X pins D f s' := by
  cases f with
  | next => obtain ⟨σ', H', I, q⟩ := h; exact ⟨σ', H', I.unwish, q⟩
  | brk => obtain ⟨σ', H', I, q⟩ := h; exact ⟨σ', H', I.unwish, q⟩
  | cont => obtain ⟨σ', H', I, q⟩ := h; exact ⟨σ', H', I.unwish, q⟩
  | ret u => obtain ⟨v, σ', H', I, r, q⟩ := h; exact ⟨v, σ', H', I.unwish, r, q⟩
theorem PE.nox {e : Expr} {t : TE} (h : PE X.nox e t) : PE X e t := fun pins s σ H Q I hw =>
  wpAny_mono (h pins s σ H Q (I.wish _) hw) (fun _ _ ⟨v, H', I', r, q⟩ => ⟨v, H', I'.unwish, r, q⟩) fun _ _ z => False.elim z
theorem PT.nox {e : Expr} {t : TT} (h : PT X.nox e t) : PT X e t := fun pins s σ H Q I hw =>
  wpAny_mono (h pins s σ H Q (I.wish _) hw) (fun _ _ ⟨H', I', q⟩ => ⟨H', I'.unwish, q⟩) fun _ _ z => False.elim z
theorem PSs.nox {st : List Stmt} {t : TS} (h : PSs X.nox st t) : PSs X st t := fun pins s σ H D I hw =>
  wpAny_mono (h pins s σ H D (I.wish _) hw) (fun _ _ q => q.unwish) fun _ _ z => False.elim z
end
/-! ### blocks and small statements -/
section
variable {X : Cx} {st : Stmt} {rest : List Stmt} {t u : TS} {e : Expr} {te : TE} {pos : Pos}
def tNext : TS := fun D σ H => D.nx σ H
def tSeq (t u : TS) : TS := fun D σ H => t { D with nx := u D } σ H
theorem pss_nil : PSs X [] tNext := fun _ _ σ H _ I h => wpAny_execs_nil ⟨σ, H, I, h⟩
theorem pss_cons (h1 : PS X st t) (h2 : PSs X rest u) : PSs X (st :: rest) (tSeq t u) := by
  intro pins s σ H D I h
  refine wpAny_execs_cons (thn (h1 pins s σ H { D with nx := u D } I h) fun f s1 q => ?_)
  cases f with
  | next =>
    obtain ⟨σ', H', I', q⟩ := q
    exact h2 pins s1 σ' H' D I' q
  | ret v => exact q
  | brk => exact q
  | cont => exact q
/-- in a def's body nothing is shown -/
theorem Inv.quiet {pins : List (Addr × Obj)} {σ : St} {H : Hp} {s : Shared} (I : Inv X pins σ H s) : interactive X.env = false := by simp [interactive, I.ok.kind]
/-- an expression whose value is dropped -/
def tDrop (te : TE) : TS := fun D σ H => te σ H fun _ H1 => D.nx σ H1
theorem ps_expr (he : PE X e te) (hs : swapsWith e none pos.line X.env = pure false := by rfl) : PS X (.Expr e pos) (tDrop te) := by
  intro pins s σ H D I h
  exact wpAny_Expr_any (thn (he pins s σ H _ I h) fun v s1 ⟨x, H1, I1, r1, q1⟩ => ⟨σ, H1, I1, q1⟩) I.quiet hs
def tRet (te : TE) : TS := fun D σ H => te σ H D.rt
theorem ps_ret (he : PE X e te) : PS X (.Return (some e) pos) (tRet te) := by
  intro pins s σ H D I h
  exact wpAny_Return_some (thn (he pins s σ H _ I h) fun v s1 ⟨x, H1, I1, r1, q1⟩ => ⟨x, σ, H1, I1, r1, q1⟩)
def tIfS (c : TT) (t u : TS) : TS := fun D σ H => c σ H fun b H1 => if b = true then t D σ H1 else u D σ H1
theorem ps_if {c : Expr} {a b : List Stmt} {tc : TT} (hc : PT X c tc) (ha : PSs X a t) (hb : PSs X b u) : PS X (.If c a b pos) (tIfS tc t u) := by
  intro pins s σ H D I h
  refine wpAny_If (thn (hc pins s σ H _ I h) fun d s1 ⟨H1, I1, q1⟩ => ?_)
  cases d with
  | true => exact ha pins s1 σ H1 D I1 q1
  | false => exact hb pins s1 σ H1 D I1 q1
/-- code that the proof never comes to -/
def tNever : TS := fun _ _ _ => False
theorem ps_never : PS X st tNever := fun _ _ _ _ _ _ h => h.elim
end
/-! ### targets -/
abbrev TG := V → St → Hp → (St → Hp → Prop) → Prop
def PG (X : Cx) (target : Expr) (t : TG) : Prop :=
  ∀ (pins : List (Addr × Obj)) (s : Shared) (σ : St) (H : Hp) (v : V) (u : Value) (Q : St → Hp → Prop), Inv X pins σ H s → RelV v u → t v σ H Q →
    wpAny (model X.prog X.w) X.A (assign target X.env u) (fun _ s' => ∃ σ' H', Inv X pins σ' H' s' ∧ Q σ' H') X.xe s
section
variable {X : Cx} {pos : Pos}
def gName (i : Nat) : TG := fun v σ H Q => Q (σ.set i (some v)) H
theorem pg_name {i : Nat} {x : Str} (hN : X.N.Nodup) (hi : X.N[i]? = some x) (hx : Loc X.env.scope x) (hf : X.fn x = true ∨ X.env.scope.names.lookup x = some .local := by first | exact .inl rfl | exact .inr rfl | assumption) : PG X (.Name x pos) (gName i) := by
  intro pins s σ H v u Q I r h
  exact wpAny_assign_Name (store_ok I hN hi hx r (fun s' I' => ⟨_, H, I', h⟩) hf)
/-- target = value -/
def tAsg (te : TE) (g : TG) : TS := fun D σ H => te σ H fun x H1 => g x σ H1 D.nx
/-- name = value -/
theorem ps_set {i : Nat} {x : Str} {e : Expr} {te : TE} {pos' : Pos} (hN : X.N.Nodup) (hi : X.N[i]? = some x) (hx : Loc X.env.scope x) (he : PE X e te) (hs : swapsWith e (some (.Name x pos')) pos.line X.env = pure false := by rfl) (hf : X.fn x = true ∨ X.env.scope.names.lookup x = some .local := by first | exact .inl rfl | exact .inr rfl | assumption) :
    PS X (.Assign [.Name x pos'] e pos) (tAsg te (gName i)) := by
  intro pins s σ H D I h
  refine wpAny_Assign_Name (thn (he pins s σ H _ I h) fun v s1 ⟨y, H1, I1, r1, q1⟩ => ?_) hs
  exact store_ok I1 hN hi hx r1 (fun s2 I2 => ⟨_, H1, I2, q1⟩) hf
end
/-! ### while -/
section
variable {X : Cx} {pos : Pos}
/-- the invariant W with its measure -/
def tWhile (c : TT) (tb : TS) : TS := fun D σ H => ∃ W : Nat → St → Hp → Prop, (∃ m, W m σ H) ∧ ∀ m σ H, W m σ H →
  c σ H fun b H1 => if b = true then ∃ N : St → Hp → Prop, (∀ σ' H', N σ' H' → ∃ m', m' < m ∧ W m' σ' H') ∧ tb { D with nx := N, ct := N, bk := D.nx } σ H1 else D.nx σ H1
theorem ps_while {c : Expr} {body : List Stmt} {tc : TT} {tb : TS} (hp : PassesOwn (model X.prog X.w) X.A X.env X.xe) (hc : PT X c tc) (hb : PSs X body tb) : PS X (.While c body [] pos) (tWhile tc tb) := by
  intro pins s σ H D I h
  obtain ⟨W, ⟨m0, w0⟩, turn⟩ := h
  refine wpAny_While (codeAny_whileLoop (fun n s' => ∃ σ' H', Inv X pins σ' H' s' ∧ W n σ' H') ?_ m0 ⟨σ, H, I, w0⟩)
  rintro n s1 ⟨σ1, H1, I1, w1⟩
  refine wpAny_passesOwn hp (thn (hc pins s1 σ1 H1 _ I1 (turn n σ1 H1 w1)) fun b s2 ⟨H2, I2, q2⟩ => ?_)
  cases b with
  | true =>
    obtain ⟨N, hN, q2⟩ := q2
    rw [if_pos rfl]
    refine wpAny_passesOwn hp (thn (hb pins s2 σ1 H2 _ I2 q2) fun f s3 q3 => ?_)
    cases f with
    | next =>
      obtain ⟨σ3, H3, I3, n3⟩ := q3
      obtain ⟨m', hm, w3⟩ := hN σ3 H3 n3
      exact ⟨m', hm, σ3, H3, I3, w3⟩
    | cont =>
      obtain ⟨σ3, H3, I3, n3⟩ := q3
      obtain ⟨m', hm, w3⟩ := hN σ3 H3 n3
      exact ⟨m', hm, σ3, H3, I3, w3⟩
    | brk => exact q3
    | ret v => exact q3
  | false =>
    rw [if_neg Bool.false_ne_true]
    exact wpAny_execs_nil ⟨σ1, H2, I2, q2⟩
end
/-! ### what a loop or a comprehension walks -/
/-- at turn i: it yields x (the heap may grow), or it stops -/
structure It where
  go : Nat → Hp → Prop
  yld : Nat → Hp → V → Hp → Prop
  stop : Nat → Hp → Prop
/-- the iterator's own objects may turn: they are not the frame's, not pinned, younger than the entry (or a comprehension's own) -/
def FpOk (X : Cx) (pins : List (Addr × Obj)) (H : Hp) (b : Addr) : Prop :=
  H b = none ∧ b ≠ X.env.locals ∧ b ∉ X.fs ∧ (b ∈ X.ex ∨ X.s₀.heap.objs.size ≤ b) ∧ (∀ x c, X.env.cells.lookup x = some c → c ≠ b) ∧ ∀ p ∈ X.pn ++ pins, p.1 ≠ b
theorem Inv.fpOk {X : Cx} {pins : List (Addr × Obj)} {σ : St} {H H' : Hp} {s : Shared} {b : Addr} (I : Inv X pins σ H s) (hb : s.heap.objs.size ≤ b) (hn : H' b = none) : FpOk X pins H' b := by
  refine ⟨hn, Nat.ne_of_gt (Nat.lt_of_lt_of_le I.lt hb), I.nofs hb, .inr (Nat.le_trans I.sz hb), fun x c e z => ?_, fun p hp z => ?_⟩
  · obtain ⟨v, q⟩ := I.cell x c e
    exact absurd (Nat.lt_of_lt_of_le q.lt (by rw [z]; exact hb)) (Nat.lt_irrefl _)
  · exact absurd (Nat.lt_of_lt_of_le (Heap.lt_size (I.pin p hp).1) (by rw [z]; exact hb)) (Nat.lt_irrefl _)
structure Turn (P : Program) (w : World) (K : PySem.W.Frag) (tg : Expr) (J : It) (fp : List Addr) (it : Addr) (tn : Nat → Heap → Prop) : Prop where
  mem : it ∈ fp
  obj : ∀ i h, tn i h → ∀ b ∈ fp, ∃ o, h.get? b = some o ∧ ∀ v, o.data ≠ .cell v
  keep : ∀ i h h', tn i h → (∀ b ∈ fp, ∀ o, h.get? b = some o → h'.get? b = some o) → tn i h'
  item : ∀ (X : Cx), X.prog = P → X.w = w → X.K = K → X.calm = true → ∀ (i : Nat) (pins : List (Addr × Obj)) (s : Shared) (σ : St) (H : Hp) (E : Value → Shared → Prop), Inv X pins σ H s → (∀ b ∈ fp, FpOk X pins H b) → tn i s.heap → J.go i H →
    wpAny (model P w) X.A (pyNext (.ref it)) (fun r s1 => ∃ u, r = some u ∧
      wpAny (model P w) X.A (letOwnedTupleGo tg (.ref it) u) (fun _ s2 => ∃ x H', Inv X pins σ H' s2 ∧ RelV x u ∧ J.yld i H x H' ∧ tn (i + 1) s2.heap ∧ ∀ b ∈ fp, H' b = none) E s1) E s
  done : ∀ (X : Cx), X.prog = P → X.w = w → X.K = K → X.calm = true → ∀ (i : Nat) (pins : List (Addr × Obj)) (s : Shared) (σ : St) (H : Hp) (E : Value → Shared → Prop), Inv X pins σ H s → (∀ b ∈ fp, FpOk X pins H b) → tn i s.heap → J.stop i H →
    wpAny (model P w) X.A (pyNext (.ref it)) (fun r s1 => r = none ∧ Inv X pins σ H s1) E s
  self : ∀ (A : Around) (i : Nat) (s : Shared) (Q : Value → Shared → Prop) (E : Value → Shared → Prop), tn i s.heap → Q (.ref it) s → wpAny (model P w) A (pyIter (.ref it)) Q E s
abbrev TI := St → Hp → (It → Hp → Prop) → Prop
/-- an iterator has come -/
def PIE (X : Cx) (pins : List (Addr × Obj)) (σ : St) (tg : Expr) (R : It → Hp → Prop) (itv : Value) (s2 : Shared) : Prop :=
  ∃ (it : Addr) (fp : List Addr) (tn : Nat → Heap → Prop) (J : It) (H' : Hp), itv = .ref it ∧ Inv X pins σ H' s2 ∧ Turn X.prog X.w X.K tg J fp it tn ∧ tn 0 s2.heap ∧ (∀ b ∈ fp, FpOk X pins H' b) ∧ R J H'
def PI (X : Cx) (tg iter : Expr) (wi : TI) : Prop :=
  ∀ (pins : List (Addr × Obj)) (s : Shared) (σ : St) (H : Hp) (R : It → Hp → Prop), Inv X pins σ H s → wi σ H R →
    wpAny (model X.prog X.w) X.A (eval iter X.env) (fun v s1 => wpAny (model X.prog X.w) X.A (pyIter v) (PIE X pins σ tg R) X.xe s1) X.xe s
/-- the step ahead of the store is nothing for an iterator that keeps no tuple -/
theorem go_of {M : Model} {A : Around} {E : Value → Shared → Prop} {s : Shared} {tg : Expr} {it : Addr} {u : Value} {o : Obj} {n : String} {vs : Array Value} {Q : Unit → Shared → Prop} (ho : s.heap.get? it = some o) (hc : o.cls = .type n) (hd : o.data = .fields vs)
    (hn : ["enumerate", "zip", "dict_itemiterator", "dict_reverseitemiterator", "odict_iterator", "itertools.zip_longest", "itertools.pairwise"].contains n = false) (hQ : Q () s) : wpAny M A (letOwnedTupleGo tg (.ref it) u) Q E s := by
  unfold letOwnedTupleGo
  cases tg <;> first
    | exact wpAny_pure hQ
    | (cases u <;> first
        | exact wpAny_pure hQ
        | (refine wpAny_bind (wpAny_load ho ?_)
           rw [hc, hd]
           show wpAny M A (if (["enumerate", "zip", "dict_itemiterator", "dict_reverseitemiterator", "odict_iterator", "itertools.zip_longest", "itertools.pairwise"].contains n && vs[0]? == some (rawInt _)) = true then _ else _) Q E s
           rw [if_neg (by intro h; rw [hn, Bool.false_and] at h; cases h)]
           exact wpAny_pure hQ))
/-- the list at a, as it stands at each turn (a loop may append to it) -/
def Itl (K : PySem.W.Frag) (a : Addr) : It :=
  ⟨fun i H => ∃ xs x, SqL K H a xs ∧ xs[i]? = some x, fun i H x H' => H' = H ∧ ∀ xs, SqL K H a xs → xs[i]? = some x, fun i H => ∃ xs, SqL K H a xs ∧ xs.length ≤ i⟩
def Itt (K : PySem.W.Frag) (a : Addr) : It :=
  ⟨fun i H => ∃ xs x, SqT K H a xs ∧ xs[i]? = some x, fun i H x H' => H' = H ∧ ∀ xs, SqT K H a xs → xs[i]? = some x, fun i H => ∃ xs, SqT K H a xs ∧ xs.length ≤ i⟩
/-- lo, lo + 1, .. (n of them) -/
def Itr (lo : Int) (n : Nat) : It := ⟨fun i _ => i < n, fun i H x H' => H' = H ∧ x = .int (lo + i), fun i _ => n ≤ i⟩
theorem turn_list {P : Program} {w : World} {K : PySem.W.Frag} {tg : Expr} (a it : Addr) : Turn P w K tg (Itl K a) [it] it (fun i h => h.IsListIter it a i) where
  mem := by simp
  obj := fun i h st b hb => by
    have e : b = it := by simpa using hb
    subst e
    obtain ⟨o, e, c, d⟩ := st
    exact ⟨o, e, fun v z => by rw [d] at z; cases z⟩
  keep := fun i h h' st k => st.at fun o e => k it (by simp) o e
  item := by
    intro X hP hw hK hc i pins s σ H E I hf st hg
    subst hP hw hK
    obtain ⟨xs, x, hq, hx⟩ := hg
    obtain ⟨its, rv, p, hz⟩ := I.list hq
    obtain ⟨u, hu, ru⟩ := rv.get hx
    obtain ⟨f0, f1, f2, f3, f4, f5⟩ := hf it (by simp)
    refine wpAny_pyNext_list_item st p.isList (x := u) (by simpa using hu) fun h' st' sb => ?_
    have I1 : Inv X pins σ H { s with heap := h' } := I.turned (t' := s.toks) (fun b o hb e => (sb.2 b hb).trans e) f0 f1 f3 f4 f5
    obtain ⟨o, e, c, d⟩ := id st'
    exact ⟨u, rfl, go_of (s := { s with heap := h' }) e c d (by decide) ⟨x, H, I1, ru, ⟨rfl, fun ys hy => by rw [I.list_inj hy hq]; exact hx⟩, st', fun b hb => (hf b hb).1⟩⟩
  done := by
    intro X hP hw hK hc i pins s σ H E I hf st hg
    subst hP hw hK
    obtain ⟨xs, hq, hx⟩ := hg
    obtain ⟨its, rv, p, hz⟩ := I.list hq
    obtain ⟨f0, f1, f2, f3, f4, f5⟩ := hf it (by simp)
    have hl := rv.length
    exact wpAny_pyNext_list_end (I.ok.hd hc) st p.isList (by simp; omega) fun h' eb => ⟨rfl, I.turned (t' := s.toks) (fun b o hb e => eb b o hb e) f0 f1 f3 f4 f5⟩
  self := fun _ _ _ _ _ st h => wpAny_pyIter_listiter st h
theorem turn_tuple {P : Program} {w : World} {K : PySem.W.Frag} {tg : Expr} (a it : Addr) : Turn P w K tg (Itt K a) [it] it (fun i h => h.IsTupleIter it a i) where
  mem := by simp
  obj := fun i h st b hb => by
    have e : b = it := by simpa using hb
    subst e
    obtain ⟨o, e, c, d⟩ := st
    exact ⟨o, e, fun v z => by rw [d] at z; cases z⟩
  keep := fun i h h' st k => st.at fun o e => k it (by simp) o e
  item := by
    intro X hP hw hK hc i pins s σ H E I hf st hg
    subst hP hw hK
    obtain ⟨xs, x, hq, hx⟩ := hg
    obtain ⟨its, rv, p, hz⟩ := I.tuple hq
    obtain ⟨u, hu, ru⟩ := rv.get hx
    obtain ⟨f0, f1, f2, f3, f4, f5⟩ := hf it (by simp)
    refine wpAny_pyNext_tuple_item st (show s.heap.IsTuple a its.toArray from p) (x := u) (by simpa using hu) fun h' st' sb => ?_
    have I1 : Inv X pins σ H { s with heap := h' } := I.turned (t' := s.toks) (fun b o hb e => (sb.2 b hb).trans e) f0 f1 f3 f4 f5
    obtain ⟨o, e, c, d⟩ := id st'
    exact ⟨u, rfl, go_of (s := { s with heap := h' }) e c d (by decide) ⟨x, H, I1, ru, ⟨rfl, fun ys hy => by rw [I.tuple_inj hy hq]; exact hx⟩, st', fun b hb => (hf b hb).1⟩⟩
  done := by
    intro X hP hw hK hc i pins s σ H E I hf st hg
    subst hP hw hK
    obtain ⟨xs, hq, hx⟩ := hg
    obtain ⟨its, rv, p, hz⟩ := I.tuple hq
    obtain ⟨f0, f1, f2, f3, f4, f5⟩ := hf it (by simp)
    have hl := rv.length
    exact wpAny_pyNext_tuple_end (I.ok.hd hc) st (show s.heap.IsTuple a its.toArray from p) (by simp; omega) fun h' eb => ⟨rfl, I.turned (t' := s.toks) (fun b o hb e => eb b o hb e) f0 f1 f3 f4 f5⟩
  self := fun _ _ _ _ _ st h => wpAny_pyIter_tupleiter st h
theorem turn_range {P : Program} {w : World} {K : PySem.W.Frag} {tg : Expr} (it : Addr) (lo : Int) (n : Nat) : Turn P w K tg (Itr lo n) [it] it (fun i h => IsRangeIter h it (lo + (i : Nat) * 1) ((n : Int) - (i : Nat)) 1) where
  mem := by simp
  obj := fun i h st b hb => by
    have e : b = it := by simpa using hb
    subst e
    exact ⟨_, st, fun v z => by
      have z' : Data.fields _ = Data.cell v := z
      cases z'⟩
  keep := fun i h h' st k => k it (by simp) _ st
  item := by
    intro X hP hw hK hc i pins s σ H E I hf st hg
    subst hP hw hK
    obtain ⟨f0, f1, f2, f3, f4, f5⟩ := hf it (by simp)
    have W := Walks.range (prog := X.prog) (w := X.w) (I.ok.hd hc) it lo 1 n
    refine W.item i s _ _ hg st fun v h' tk hv st' kk => ?_
    obtain ⟨t, rfl⟩ := hv
    have I1 : Inv X pins σ H { s with heap := h', toks := tk } := I.turned (fun b o hb e => kk b o (by simpa using hb) e) f0 f1 f3 f4 f5
    refine ⟨_, rfl, go_of (s := { s with heap := h', toks := tk }) (n := "range_iterator") st' rfl rfl (by decide) ⟨.int (lo + i), H, I1, ⟨t, ?_⟩, ⟨rfl, rfl⟩, st', fun b hb => (hf b hb).1⟩⟩
    rw [Int.mul_one]
  done := by
    intro X hP hw hK hc i pins s σ H E I hf st hg
    subst hP hw hK
    obtain ⟨f0, f1, f2, f3, f4, f5⟩ := hf it (by simp)
    exact wpAny_pyNext_range_end (I.ok.hd hc) st (by have : n ≤ i := hg; omega) fun h' eb => ⟨rfl, I.turned (t' := s.toks) (fun b o hb e => eb b o hb e) f0 f1 f3 f4 f5⟩
  self := fun _ _ _ _ _ st h => wpAny_pyIter_rangeiter st h
end L2
namespace L2
open PySem PySem.Spec PyProof.Rows
section
variable {X : Cx} {tg : Expr}
/-- a range object just made, walked -/
theorem range_it {pins : List (Addr × Obj)} {σ : St} {H : Hp} {s : Shared} {R : It → Hp → Prop} {E : Value → Shared → Prop} {lo hi : Int} {t u v : Tok} {tk : Nat} (I : Inv X pins σ H s) (h1 : -(2 ^ 62) ≤ lo) (h2 : lo < 2 ^ 62) (h3 : -(2 ^ 62) ≤ hi) (h4 : hi < 2 ^ 62)
    (q : R (Itr lo (hi - lo).toNat) H) : wpAny (model X.prog X.w) X.A (pyIter (.ref s.heap.objs.size)) (PIE X pins σ tg R) E { s with heap := s.heap.push { cls := .type "range", data := .fields #[.int lo t, .int hi u, .int 1 v] }, toks := tk } := by
  refine wpAny_pyIter_range (IsRange.new ..) (small_one h1 h2 h3 h4) ?_
  have I1 : Inv X pins σ H { s with heap := s.heap.push { cls := .type "range", data := .fields #[.int lo t, .int hi u, .int 1 v] }, toks := tk } := I.kept fun b o e => Heap.get?_push_of_some _ e
  refine ⟨(s.heap.push { cls := .type "range", data := .fields #[.int lo t, .int hi u, .int 1 v] }).objs.size, [(s.heap.push { cls := .type "range", data := .fields #[.int lo t, .int hi u, .int 1 v] }).objs.size], _, _, H, rfl,
    I1.kept (t' := tk) fun b o e => Heap.get?_push_of_some _ e, turn_range _ lo (hi - lo).toNat, ?_, fun b hb => ?_, q⟩
  · have e1 : lo + ((0 : Nat) : Int) * 1 = lo := by simp
    have e2 : (((hi - lo).toNat : Nat) : Int) - ((0 : Nat) : Int) = Builtin.Range.rangeSize lo hi 1 := by rw [rangeSize_one]; split <;> omega
    show IsRangeIter _ _ (lo + ((0 : Nat) : Int) * 1) ((((hi - lo).toNat : Nat) : Int) - ((0 : Nat) : Int)) 1
    rw [e1, e2]
    exact Heap.get?_push_size _ rfl
  · have e : b = (s.heap.push { cls := .type "range", data := .fields #[.int lo t, .int hi u, .int 1 v] }).objs.size := by simpa using hb
    subst e
    exact I1.fpOk (Nat.le_refl _) (I1.hok.fresh (Nat.le_refl _))
def iRng1 (ta : TA) : TI := fun σ H R => ta σ H fun vs H1 => ∃ j : Int, vs = [.int j] ∧ -(2 ^ 62) ≤ j ∧ j < 2 ^ 62 ∧ R (Itr 0 j.toNat) H1
def iRng2 (ta : TA) : TI := fun σ H R => ta σ H fun vs H1 => ∃ i j : Int, vs = [.int i, .int j] ∧ (-(2 ^ 62) ≤ i ∧ i < 2 ^ 62 ∧ -(2 ^ 62) ≤ j ∧ j < 2 ^ 62) ∧ R (Itr i (j - i).toNat) H1
theorem pi_range1 {a : Expr} {ta : TA} {p pos : Pos} (hg : Gl X "range") (hm : X.mg "range" = none) (ha : PA X [a] ta) (hs : starEach [a] X.env = [(false, eval a X.env)] := by rfl) : PI X tg (.Call (.Name "range" p) [a] [] pos) (iRng1 ta) := by
  intro pins s σ H R I h
  refine Call_ (ld_blt I hg hm boot_range (PyProof.Rows.callWith_type1 (thn (ha pos pins s σ H _ I h) fun us s1 ⟨vs, H1, I1, r1, q1⟩ => ?_) hs rfl))
  obtain ⟨j, e, q1, q2, q⟩ := q1
  subst e
  cases r1 with
  | cons r rr =>
    cases rr
    obtain ⟨t, rfl⟩ := r
    exact call_range_1 (range_it I1 (by omega) (by omega) q1 q2 (by simpa using q))
theorem pi_range2 {a b : Expr} {ta : TA} {p pos : Pos} (hg : Gl X "range") (hm : X.mg "range" = none) (ha : PA X [a, b] ta) (hs : starEach [a, b] X.env = [(false, eval a X.env), (false, eval b X.env)] := by rfl) (hs2 : starEach [b] X.env = [(false, eval b X.env)] := by rfl) :
    PI X tg (.Call (.Name "range" p) [a, b] [] pos) (iRng2 ta) := by
  intro pins s σ H R I h
  refine Call_ (ld_blt I hg hm boot_range (PyProof.Rows.callWith_type1 (thn (ha pos pins s σ H _ I h) fun us s1 ⟨vs, H1, I1, r1, q1⟩ => ?_) (by rw [hs, hs2]) (by rw [hs2]; rfl)))
  obtain ⟨i, j, e, ⟨q1, q2, q3, q4⟩, q⟩ := q1
  subst e
  cases r1 with
  | cons r rr =>
    cases rr with
    | cons r' rr =>
      cases rr
      obtain ⟨t, rfl⟩ := r
      obtain ⟨t', rfl⟩ := r'
      exact call_range_2 (range_it I1 q1 q2 q3 q4 q)
/-! ### for -/
/-- W: the invariant by the turn and a measure; N: what the body is to reach -/
def tFor (wi : TI) (g : TG) (tb : TS) : TS := fun D σ H => wi σ H fun J H1 => ∃ W : Nat → Nat → St → Hp → Prop, (∃ m, W 0 m σ H1) ∧ ∀ i m σ H, W i m σ H →
  (J.stop i H ∧ D.nx σ H) ∨ (J.go i H ∧ ∃ N : St → Hp → Prop, (∀ σ' H', N σ' H' → ∃ m', m' < m ∧ W (i + 1) m' σ' H') ∧ ∀ x H', J.yld i H x H' → g x σ H' fun σ2 H2 => tb { D with nx := N, ct := N, bk := D.nx } σ2 H2)
/-- the records at fp as they stand -/
def pinsAt (fp : List Addr) (h : Heap) : List (Addr × Obj) := fp.filterMap fun b => (h.get? b).map fun o => (b, o)
theorem mem_pinsAt {fp : List Addr} {h : Heap} {b : Addr} {o : Obj} (hb : b ∈ fp) (e : h.get? b = some o) : (b, o) ∈ pinsAt fp h := List.mem_filterMap.mpr ⟨b, hb, by rw [e]; rfl⟩
theorem of_pinsAt {fp : List Addr} {h : Heap} {p : Addr × Obj} (hp : p ∈ pinsAt fp h) : p.1 ∈ fp ∧ h.get? p.1 = some p.2 := by
  obtain ⟨b, hb, e⟩ := List.mem_filterMap.mp hp
  cases q : h.get? b with
  | none => rw [q] at e; cases e
  | some o =>
    rw [q] at e
    have e' : (b, o) = p := Option.some.inj e
    subst e'
    exact ⟨hb, q⟩
theorem Inv.pinned {pins : List (Addr × Obj)} {σ : St} {H : Hp} {s : Shared} {fp : List Addr} (I : Inv X pins σ H s) (hf : ∀ b ∈ fp, FpOk X pins H b) (ho : ∀ b ∈ fp, ∃ o, s.heap.get? b = some o ∧ ∀ v, o.data ≠ .cell v) : Inv X (pins ++ pinsAt fp s.heap) σ H s :=
  I.pins_of fun p hp => (List.mem_append.mp hp).elim (fun z => I.pin p (List.mem_append_right _ z)) fun z => by
    obtain ⟨hb, e⟩ := of_pinsAt z
    obtain ⟨f0, f1, f2, _⟩ := hf p.1 hb
    obtain ⟨o, e', d⟩ := ho p.1 hb
    rw [e] at e'; cases e'
    exact ⟨e, f0, f1, f2, d⟩
theorem Inv.unpinned {pins pl : List (Addr × Obj)} {σ : St} {H : Hp} {s : Shared} (I : Inv X (pins ++ pl) σ H s) : Inv X pins σ H s := I.pins_of fun p hp => I.pin p (List.mem_append_right _ (List.mem_append_left _ hp))
theorem ps_for {iter : Expr} {body : List Stmt} {wi : TI} {g : TG} {tb : TS} {pos : Pos} (hp : PassesOwn (model X.prog X.w) X.A X.env X.xe) (hc : X.calm = true) (hi : PI X tg iter wi) (hg : PG X tg g) (hb : PSs X body tb)
    (hs : ∀ x, foldedSetIterable iter X.env x = pure x := by intro _; rfl) : PS X (.For tg iter body [] pos) (tFor wi g tb) := by
  intro pins s σ H D I h
  refine wpAny_For (thn (hi pins s σ H _ I h) fun v s1 h1 => thn h1 fun itv s2 h2 => ?_) hs
  obtain ⟨it, fp, tn, J, H2, e, I2, T, st2, f2, W, ⟨m0, w0⟩, turn⟩ := h2
  subst e
  -- what stays true of the iterator's objects through the loop
  have stat : ∀ {H' : Hp}, (∀ b ∈ fp, H' b = none) → ∀ b ∈ fp, FpOk X pins H' b := fun hn b hb => ⟨hn b hb, (f2 b hb).2⟩
  refine codeAny_forLoop_any (fun n s' => ∃ i σ' H', Inv X pins σ' H' s' ∧ tn i s'.heap ∧ (∀ b ∈ fp, H' b = none) ∧ W i n σ' H') ?_ m0 ⟨0, σ, H2, I2, st2, fun b hb => (f2 b hb).1, w0⟩
  rintro n s3 ⟨i, σ3, H3, I3, st3, fr3, w3⟩
  rcases turn i n σ3 H3 w3 with ⟨stop, qn⟩ | ⟨go, N, hN, step⟩
  · refine wpAny_passesOwn hp (thn (T.done X rfl rfl rfl hc i pins s3 σ3 H3 X.xe I3 (stat fr3) st3 stop) fun r s4 ⟨hr, I4⟩ => ?_)
    subst hr
    exact wpAny_execs_nil ⟨σ3, H3, I4, qn⟩
  · refine wpAny_passesOwn hp (thn (T.item X rfl rfl rfl hc i pins s3 σ3 H3 X.xe I3 (stat fr3) st3 go) fun r s4 ⟨u, hr, h4⟩ => ?_)
    subst hr
    refine wpAny_passesOwn hp (thn h4 fun _ s5 ⟨x, H5, I5, r5, y5, st5, fr5⟩ => ?_)
    have I5' := I5.pinned (stat fr5) (T.obj _ _ st5)
    refine wpAny_passesOwn hp (thn (hg _ s5 σ3 H5 x u _ I5' r5 (step x H5 y5)) fun _ s6 ⟨σ6, H6, I6, q6⟩ => ?_)
    refine wpAny_passesOwn hp (thn (hb _ s6 σ6 H6 _ I6 q6) fun f s7 q7 => ?_)
    have again : ∀ {σ7 : St} {H7 : Hp}, Inv X (pins ++ pinsAt fp s5.heap) σ7 H7 s7 → N σ7 H7 → ∃ m, m < n ∧ ∃ i σ' H', Inv X pins σ' H' s7 ∧ tn i s7.heap ∧ (∀ b ∈ fp, H' b = none) ∧ W i m σ' H' := fun {σ7 H7} I7 n7 => by
      obtain ⟨m', hm, w7⟩ := hN σ7 H7 n7
      refine ⟨m', hm, i + 1, σ7, H7, I7.unpinned, T.keep _ _ _ st5 fun b hb o e => (I7.pin (b, o) (List.mem_append_right _ (List.mem_append_right _ (mem_pinsAt hb e)))).1, fun b hb => ?_, w7⟩
      obtain ⟨o, e, d⟩ := T.obj _ _ st5 b hb
      exact (I7.pin (b, o) (List.mem_append_right _ (List.mem_append_right _ (mem_pinsAt hb e)))).2.1
    cases f with
    | next => obtain ⟨σ7, H7, I7, n7⟩ := q7; exact again I7 n7
    | cont => obtain ⟨σ7, H7, I7, n7⟩ := q7; exact again I7 n7
    | brk => obtain ⟨σ7, H7, I7, q7⟩ := q7; exact ⟨σ7, H7, I7.unpinned, q7⟩
    | ret v => obtain ⟨x7, σ7, H7, I7, r7, q7⟩ := q7; exact ⟨x7, σ7, H7, I7.unpinned, r7, q7⟩
end
/-! ### the forms one uses -/
end L2
namespace L2
open PySem PySem.Spec PyProof.Rows
abbrev R2 := V → V → Hp → VK → Prop
/-- a two-place operation on values: f is binaryOp op, inplaceOp op or compareOp op -/
def OpR (X : Cx) (f : Value → Value → Sem Value) (r : R2) : Prop :=
  ∀ (pins : List (Addr × Obj)) (s : Shared) (σ : St) (H : Hp) (x y : V) (v u : Value) (Q : VK), Inv X pins σ H s → RelV x v → RelV y u → r x y H Q →
    wpAny (model X.prog X.w) X.A (f v u) (EP X pins σ Q) X.xe s
/-- a call of a value that is known (a builtin, a type) with values -/
def CallR (X : Cx) (f : Value) (r : List V → Hp → VK → Prop) : Prop :=
  ∀ (pins : List (Addr × Obj)) (s : Shared) (σ : St) (H : Hp) (xs : List V) (us : List Value) (Q : VK), Inv X pins σ H s → Vals xs us → r xs H Q →
    wpAny (model X.prog X.w) X.A (call f us) (EP X pins σ Q) X.xe s
/-- a value's truth -/
def TruR (X : Cx) (r : V → Hp → (Bool → Hp → Prop) → Prop) : Prop :=
  ∀ (pins : List (Addr × Obj)) (s : Shared) (σ : St) (H : Hp) (x : V) (v : Value) (Q : Bool → Hp → Prop), Inv X pins σ H s → RelV x v → r x H Q →
    wpAny (model X.prog X.w) X.A (truthy v) (TP X pins σ Q) X.xe s
def tOp (r : R2) (ta tb : TE) : TE := fun σ H Q => ta σ H fun x H1 => tb σ H1 fun y H2 => r x y H2 Q
/-- ints in, under C, and a value out -/
def rI (C : Int → Int → Prop) (g : Int → Int → V) : R2 := fun x y H Q => ∃ i j, x = .int i ∧ y = .int j ∧ C i j ∧ Q (g i j) H
def rI0 (g : Int → Int → V) : R2 := fun x y H Q => ∃ i j, x = .int i ∧ y = .int j ∧ Q (g i j) H
section
variable {X : Cx} {a b c : Expr} {ta tb tc : TE} {pos : Pos}
theorem binT (ha : PE X a ta) (hb : PE X b tb) {pins : List (Addr × Obj)} {s : Shared} {σ : St} {H : Hp} {R : V → V → Hp → Prop} (I : Inv X pins σ H s)
    (h : ta σ H fun x H1 => tb σ H1 fun y H2 => R x y H2) {Q : Value → Shared → Prop} {f : Value → Value → Sem Value}
    (hf : ∀ v u s2 x y H2, Inv X pins σ H2 s2 → RelV x v → RelV y u → R x y H2 → wpAny (model X.prog X.w) X.A (f v u) Q X.xe s2) :
    wpAny (model X.prog X.w) X.A (eval a X.env) (fun v s₁ => wpAny (model X.prog X.w) X.A (eval b X.env) (fun u s₂ => wpAny (model X.prog X.w) X.A (f v u) Q X.xe s₂) X.xe s₁) X.xe s := by
  refine thn (ha pins s σ H _ I h) fun v s1 ⟨x, H1, I1, r1, q1⟩ => ?_
  refine thn (hb pins s1 σ H1 _ I1 q1) fun u s2 ⟨y, H2, I2, r2, q2⟩ => ?_
  exact hf v u s2 x y H2 I2 r1 r2 q2
theorem pe_op {op : Operator} {r : R2} (ho : OpR X (binaryOp op) r) (ha : PE X a ta) (hb : PE X b tb) : PE X (.BinOp a op b pos) (tOp r ta tb) := by
  intro pins s σ H Q I h
  exact wpAny_BinOp (binT ha hb I h fun v u s2 x y H2 I2 rx ry q => ho pins s2 σ H2 x y v u Q I2 rx ry q)
/-! ### ints -/
theorem opI {f : Value → Value → Sem Value} {C : Int → Int → Prop} {g : Int → Int → Int}
    (rule : ∀ (i j : Int) (t u : Tok) (s : Shared) (Q : Value → Shared → Prop) (E : Value → Shared → Prop), C i j → Q (.int (g i j) s.toks) { s with toks := s.toks + 1 } → wpAny (model X.prog X.w) X.A (f (.int i t) (.int j u)) Q E s) :
    OpR X f (rI C fun i j => .int (g i j)) := by
  intro pins s σ H x y v u Q I rx ry h
  obtain ⟨i, j, rfl, rfl, hc, q⟩ := h
  obtain ⟨t, rfl⟩ := rx
  obtain ⟨t', rfl⟩ := ry
  exact rule i j t t' s _ _ hc ⟨.int (g i j), H, I.tok _, ⟨_, rfl⟩, q⟩
theorem opI0 {f : Value → Value → Sem Value} {g : Int → Int → Int}
    (rule : ∀ (i j : Int) (t u : Tok) (s : Shared) (Q : Value → Shared → Prop) (E : Value → Shared → Prop), Q (.int (g i j) s.toks) { s with toks := s.toks + 1 } → wpAny (model X.prog X.w) X.A (f (.int i t) (.int j u)) Q E s) :
    OpR X f (rI0 fun i j => .int (g i j)) := by
  intro pins s σ H x y v u Q I rx ry h
  obtain ⟨i, j, rfl, rfl, q⟩ := h
  obtain ⟨t, rfl⟩ := rx
  obtain ⟨t', rfl⟩ := ry
  exact rule i j t t' s _ _ ⟨.int (g i j), H, I.tok _, ⟨_, rfl⟩, q⟩
theorem opB0 {f : Value → Value → Sem Value} {g : Int → Int → Bool}
    (rule : ∀ (i j : Int) (t u : Tok) (s : Shared) (Q : Value → Shared → Prop) (E : Value → Shared → Prop), Q (.bool (g i j)) s → wpAny (model X.prog X.w) X.A (f (.int i t) (.int j u)) Q E s) :
    OpR X f (rI0 fun i j => .bl (g i j)) := by
  intro pins s σ H x y v u Q I rx ry h
  obtain ⟨i, j, rfl, rfl, q⟩ := h
  obtain ⟨t, rfl⟩ := rx
  obtain ⟨t', rfl⟩ := ry
  exact rule i j t t' s _ _ ⟨.bl (g i j), H, I, rfl, q⟩
def CMul (i j : Int) : Prop := (-(2 ^ 64) < i ∧ i < 2 ^ 64) ∨ (-(2 ^ 64) < j ∧ j < 2 ^ 64)
theorem CMul.ok {i j : Int} (h : CMul i j) : IntMulOk i j := by
  rcases h with ⟨h1, h2⟩ | ⟨h1, h2⟩
  · exact .of_left (intBits_le_64 h1 h2)
  · exact .of_right (intBits_le_64 h1 h2)
theorem op_add : OpR X (binaryOp .Add) (rI0 fun i j => .int (i + j)) := opI0 fun _ _ _ _ _ _ _ q => add_int q
theorem op_sub : OpR X (binaryOp .Sub) (rI0 fun i j => .int (i - j)) := opI0 fun _ _ _ _ _ _ _ q => sub_int q
theorem op_mul : OpR X (binaryOp .Mult) (rI CMul fun i j => .int (i * j)) := opI fun _ _ _ _ _ _ _ hc q => mul_int q hc.ok
/-- % by a positive divisor of any size -/
theorem op_mod : OpR X (binaryOp .Mod) (rI (fun _ j => 0 < j) fun i j => .int (i % j)) := opI fun i j _ _ _ _ _ hc q => by
  have h1 : (0 : Int) < j := hc
  exact mod_int' (by omega) (by rw [Int.fmod_eq_emod_of_nonneg i (by omega)]; exact q)
/-! ### bools among ints: n += (a < b) -/
end
/-! ### comparisons -/
section
variable {X : Cx} {a b c : Expr} {ta tb tc : TE} {pos : Pos}
theorem op_lt : OpR X (compareOp .Lt) (rI0 fun i j => .bl (decide (i < j))) := opB0 fun _ _ _ _ _ _ _ q => lt_int q
theorem op_le : OpR X (compareOp .LtE) (rI0 fun i j => .bl (decide (i ≤ j))) := opB0 fun _ _ _ _ _ _ _ q => le_int q
theorem op_gt : OpR X (compareOp .Gt) (rI0 fun i j => .bl (decide (j < i))) := opB0 fun _ _ _ _ _ _ _ q => gt_int q
/-- two rules for one operation: by cases -/
theorem OpR.or {f : Value → Value → Sem Value} {r r' : R2} (h : OpR X f r) (h' : OpR X f r') : OpR X f (fun x y H Q => r x y H Q ∨ r' x y H Q) := by
  intro pins s σ H x y v u Q I rx ry q
  rcases q with q | q
  · exact h pins s σ H x y v u Q I rx ry q
  · exact h' pins s σ H x y v u Q I rx ry q
theorem nomark (b : Expr) {op : CmpOp} (h : op ≠ .In := by decide) (h2 : op ≠ .NotIn := by decide) : behindInMarks op b = false := by
  have e1 : (op == CmpOp.In) = false := by cases op <;> first | rfl | exact absurd rfl h
  have e2 : (op == CmpOp.NotIn) = false := by cases op <;> first | rfl | exact absurd rfl h2
  cases b <;> simp [behindInMarks, e1, e2]
/-- a comparison as a value; hm: nomark b, or (for in, not in) by with_unfolding_all rfl -/
theorem pe_cmpR {op : CmpOp} {r : R2} (ho : OpR X (compareOp op) r) (ha : PE X a ta) (hb : PE X b tb) (hm : behindInMarks op b = false) : PE X (.Compare a [op] [b] pos) (tOp r ta tb) := by
  intro pins s σ H Q I h
  exact wpAny_Compare1 (binT ha hb I h fun v u s2 x y H2 I2 rx ry q => ho pins s2 σ H2 x y v u Q I2 rx ry q) hm
/-- a reading of a value as a test -/
def tTest (t : TE) : TT := fun σ H Q => t σ H fun x H' => ∃ k, x = .bl k ∧ Q k H'
theorem pt_cmpR {op : CmpOp} {r : R2} (ho : OpR X (compareOp op) r) (ha : PE X a ta) (hb : PE X b tb) (hm : behindInMarks op b = false) : PT X (.Compare a [op] [b] pos) (tTest (tOp r ta tb)) := by
  intro pins s σ H Q I h
  refine wpAny_isTrue_Compare1 (thn (ha pins s σ H _ I h) fun v s1 ⟨x, H1, I1, r1, q1⟩ => thn (hb pins s1 σ H1 _ I1 q1) fun u s2 ⟨y, H2, I2, r2, q2⟩ =>
    thn (ho pins s2 σ H2 x y v u _ I2 r1 r2 q2) fun c s3 ⟨z, H3, I3, r3, k, e, q3⟩ => ?_) hm
  subst e
  cases r3
  exact wpAny_truthy_bool ⟨H3, I3, q3⟩
/-- a op1 b op2 c -/
def tChain (r r' : R2) (ta tb tc : TE) : TE := fun σ H Q => ta σ H fun x H1 => tb σ H1 fun y H2 => r x y H2 fun z H3 => ∃ k, z = .bl k ∧
  (if k = true then tc σ H3 fun w' H4 => r' y w' H4 Q else Q (.bl false) H3)
theorem pe_chain {op op' : CmpOp} {r r' : R2} (ho : OpR X (compareOp op) r) (ho' : OpR X (compareOp op') r') (ha : PE X a ta) (hb : PE X b tb) (hc : PE X c tc)
    (hm : lastMarks [op, op'] [b, c] = false := by with_unfolding_all rfl) : PE X (.Compare a [op, op'] [b, c] pos) (tChain r r' ta tb tc) := by
  intro pins s σ H Q I h
  refine Compare_chain (thn (ha pins s σ H _ I h) fun v s1 ⟨x, H1, I1, r1, q1⟩ => chain_link (thn (hb pins s1 σ H1 _ I1 q1) fun u s2 ⟨y, H2, I2, r2, q2⟩ =>
    thn (ho pins s2 σ H2 x y v u _ I2 r1 r2 q2) fun d s3 ⟨z, H3, I3, r3, k, e, q3⟩ => ?_)) hm
  subst e
  cases r3
  refine wpAny_truthy_bool ?_
  cases k with
  | false => exact ite_ff ⟨.bl false, H3, I3, rfl, q3⟩
  | true => exact ite_tt (chain_last (thn (hc pins s3 σ H3 _ I3 q3) fun w' s4 ⟨z', H4, I4, r4, q4⟩ => ho' pins s4 σ H4 y z' u w' Q I4 r2 r4 q4))
theorem pt_chain {op op' : CmpOp} {r r' : R2} (ho : OpR X (compareOp op) r) (ho' : OpR X (compareOp op') r') (ha : PE X a ta) (hb : PE X b tb) (hc : PE X c tc)
    (hm : lastMarks [op, op'] [b, c] = false := by with_unfolding_all rfl) : PT X (.Compare a [op, op'] [b, c] pos) (tTest (tChain r r' ta tb tc)) := by
  intro pins s σ H Q I h
  refine isTrue_chain (thn (ha pins s σ H _ I h) fun v s1 ⟨x, H1, I1, r1, q1⟩ => test_link (thn (hb pins s1 σ H1 _ I1 q1) fun u s2 ⟨y, H2, I2, r2, q2⟩ =>
    thn (ho pins s2 σ H2 x y v u _ I2 r1 r2 q2) fun d s3 ⟨z, H3, I3, r3, k, e, q3⟩ => ?_)) hm
  subst e
  cases r3
  refine wpAny_truthy_bool ?_
  cases k with
  | false =>
    obtain ⟨k', e', q'⟩ := q3
    cases e'
    exact ite_ff ⟨H3, I3, q'⟩
  | true =>
    refine ite_tt (test_last (thn (hc pins s3 σ H3 _ I3 q3) fun w' s4 ⟨z', H4, I4, r4, q4⟩ => thn (ho' pins s4 σ H4 y z' u w' _ I4 r2 r4 q4) fun d' s5 ⟨z2, H5, I5, r5, k2, e2, q5⟩ => ?_))
    subst e2
    cases r5
    exact wpAny_truthy_bool ⟨H5, I5, q5⟩
/-! ### truth -/
/-- a value's truth by the abstract heap -/
def TruV (K : PySem.W.Frag) (x : V) (H : Hp) (k : Bool) : Prop :=
  match x with
  | .non => k = false
  | .bl b => k = b
  | .int i => k = (i != 0)
  | .str y => y.length ≤ sizeLine ∧ k = ((y.length : Int) != 0)
  | .byt y => y.size ≤ sizeLine ∧ k = ((y.size : Int) != 0)
  | .ref p => (∃ xs, SqL K H p xs ∧ k = !xs.isEmpty) ∨ (∃ xs, SqT K H p xs ∧ k = !xs.isEmpty) ∨ ∃ kvs, H p = some (.dK kvs) ∧ k = !kvs.isEmpty
  | _ => False
theorem isEmpty_kv {κ : Type} {kvs : List (κ × V)} {vs : List (κ × Value)} (r : KV kvs vs) : (!vs.isEmpty) = !kvs.isEmpty := by
  cases r <;> rfl
theorem isEmpty_of {xs : List V} {its : List Value} (r : Vals xs its) : (!its.toArray.isEmpty) = !xs.isEmpty := by
  cases r <;> simp
theorem line63 : (sizeLine : Nat) < 2 ^ 63 := by rw [sizeLine_eq]; decide
theorem tru_ok : TruR X (fun x H Q => ∃ k, TruV X.K x H k ∧ Q k H) := by
  intro pins s σ H x v Q I rx h
  obtain ⟨k, e, q⟩ := h
  have hl := line63
  have hs : sizeLine = 16777216 := sizeLine_eq
  cases x with
  | non =>
    cases rx
    have e' : k = false := e
    subst e'
    exact truthy_none ⟨H, I, q⟩
  | bl b =>
    cases rx
    have e' : k = b := e
    subst e'
    exact wpAny_truthy_bool ⟨H, I, q⟩
  | int i =>
    obtain ⟨t, rfl⟩ := rx
    have e' : k = (i != 0) := e
    subst e'
    exact PySem.P.truthy_int ⟨H, I, q⟩
  | str y =>
    obtain ⟨t, rfl⟩ := rx
    obtain ⟨hy, e'⟩ : y.length ≤ sizeLine ∧ k = ((y.length : Int) != 0) := e
    subst e'
    exact PySem.P.truthy_str (by omega) ⟨H, I.tok _, q⟩
  | byt y =>
    obtain ⟨t, rfl⟩ := rx
    obtain ⟨hy, e'⟩ : y.size ≤ sizeLine ∧ k = ((y.size : Int) != 0) := e
    subst e'
    exact PySem.W.truthy_bytes (by omega) ⟨H, I.tok _, q⟩
  | ref p =>
    cases rx
    have e' : (∃ xs, SqL X.K H p xs ∧ k = !xs.isEmpty) ∨ (∃ xs, SqT X.K H p xs ∧ k = !xs.isEmpty) ∨ ∃ kvs, H p = some (.dK kvs) ∧ k = !kvs.isEmpty := e
    rcases e' with ⟨xs, hx, e'⟩ | ⟨xs, hx, e'⟩ | ⟨kvs, hx, e'⟩
    · subst e'
      obtain ⟨its, r, pl, hz⟩ := I.list hx
      have hlen := r.length
      exact wpAny_truthy_list pl.isList (by simp only [List.size_toArray]; omega) ⟨H, I.tok _, by rw [isEmpty_of r]; exact q⟩
    · subst e'
      obtain ⟨its, r, pl, hz⟩ := I.tuple hx
      have hlen := r.length
      exact truthy_tuple pl (by simp only [List.size_toArray]; omega) ⟨H, I.tok _, by rw [isEmpty_of r]; exact q⟩
    · subst e'
      obtain ⟨hz, hS, vs, r, m⟩ : kvs.length ≤ sizeLine ∧ (p == sysModules) = false ∧ ∃ vs, KV kvs vs ∧ s.heap.DictOf (mixKind X.prog X.w) p vs := I.hok p _ hx
      have hlen : kvs.length = vs.length := Paired.length r
      exact wpAny_truthy_dict hS m (by omega) ⟨H, I.tok _, by rw [isEmpty_kv r]; exact q⟩
  | _ => exact (show False from e).elim
/-- any expression whose test is its value's truth (a name, a call, a subscript, a field ..: he by fun _ => rfl) -/
theorem pt_truth (ha : PE X a ta) (he : ∀ whole, isTrue a X.env whole = (do let v ← whole; standAt a.pos; holding [v] (truthy v))) :
    PT X a (fun σ H Q => ta σ H fun x H' => ∃ k, TruV X.K x H' k ∧ Q k H') := by
  intro pins s σ H Q I h
  exact isTrue_plain (thn (ha pins s σ H _ I h) fun v s1 ⟨x, H1, I1, r1, q1⟩ => tru_ok pins s1 σ H1 x v Q I1 r1 q1) (he _)
/-! ### strs and bytes -/
/-! ### scalar builtins, by CallR -/
theorem vals1 {x : V} {us : List Value} (r : Vals [x] us) : ∃ u, us = [u] ∧ RelV x u := by
  cases r with
  | cons r1 r2 => cases r2; exact ⟨_, rfl, r1⟩
theorem vals2 {x y : V} {us : List Value} (r : Vals [x, y] us) : ∃ u w', us = [u, w'] ∧ RelV x u ∧ RelV y w' := by
  cases r with
  | cons r1 r2 =>
    cases r2 with
    | cons r3 r4 => cases r4; exact ⟨_, _, rfl, r1, r3⟩
theorem call_abs : CallR X (.builtin "abs") (fun xs H Q => ∃ i, xs = [.int i] ∧ Q (.int (if i < 0 then -i else i)) H) := by
  intro pins s σ H xs us Q I r h
  obtain ⟨i, rfl, q⟩ := h
  obtain ⟨u, rfl, t, rfl⟩ := vals1 r
  exact call_abs_int fun u tk => ⟨.int (if i < 0 then -i else i), H, I.tok _, ⟨_, rfl⟩, q⟩
theorem call_max2 (hc : X.calm = true) : CallR X (.builtin "max") (fun xs H Q => ∃ i j, xs = [.int i, .int j] ∧ Q (.int (if j > i then j else i)) H) := by
  intro pins s σ H xs us Q I r h
  obtain ⟨i, j, rfl, q⟩ := h
  obtain ⟨u, w', rfl, ⟨t, rfl⟩, ⟨t', rfl⟩⟩ := vals2 r
  refine max_two_ints (I.ok.hd hc) fun h' tk k => ⟨_, H, I.kept k, ?_, q⟩
  by_cases hj : j > i
  · rw [if_pos hj, if_pos hj]; exact ⟨_, rfl⟩
  · rw [if_neg hj, if_neg hj]; exact ⟨_, rfl⟩
theorem call_min2 (hc : X.calm = true) : CallR X (.builtin "min") (fun xs H Q => ∃ i j, xs = [.int i, .int j] ∧ Q (.int (if j < i then j else i)) H) := by
  intro pins s σ H xs us Q I r h
  obtain ⟨i, j, rfl, q⟩ := h
  obtain ⟨u, w', rfl, ⟨t, rfl⟩, ⟨t', rfl⟩⟩ := vals2 r
  refine min_two_ints (I.ok.hd hc) fun h' tk k => ⟨_, H, I.kept k, ?_, q⟩
  by_cases hj : j < i
  · rw [if_pos hj, if_pos hj]; exact ⟨_, rfl⟩
  · rw [if_neg hj, if_neg hj]; exact ⟨_, rfl⟩
end
end L2
namespace L2
open PySem PySem.Spec PyProof.Rows
/-! ### an instance, its attributes a map -/
structure ObjM (h : Heap) (x dx C : Addr) (mA : Str → Option Value) : Prop where
  obj : h.get? x = some (PySem.W.instObj C dx)
  ns : h.Ns1 dx mA
  ne : dx ≠ x
theorem lookIn_ns {h : Heap} {dx : Addr} {mA : Str → Option Value} (n : h.Ns1 dx mA) : ∃ od, h.get? dx = some od ∧ ∀ name, PySem.W.lookIn name od = some (mA name) := by
  obtain ⟨o, es, ep, ho, hd, hk, _, hm⟩ := n
  refine ⟨o, ho, fun name => ?_⟩
  have e := hm name
  unfold nsFind findBy at e
  rw [← Array.find?_toList] at e
  unfold PySem.W.lookIn
  rw [hd]
  dsimp only
  split
  · rename_i y q
    rw [q] at e
    exact congrArg some e
  · rename_i q
    rw [q] at e
    have a : es.toList.any (·.refKey) = false := by
      rw [List.any_eq_false]
      intro y hy
      obtain ⟨z, t, hkey⟩ := hk y (Array.mem_toList_iff.mp hy)
      simp [DictEntry.refKey, hkey]
    have a' : ¬ es.toList.any (·.refKey) = true := by rw [a]; exact Bool.false_ne_true
    rw [if_neg a']
    exact congrArg some e
theorem ObjM.look {h : Heap} {x dx C : Addr} {mA : Str → Option Value} (I : ObjM h x dx C mA) : ∃ od, PySem.W.InstAt h x (PySem.W.instObj C dx) C (some od) ∧ ∀ name, PySem.W.lookIn name od = some (mA name) :=
  let ⟨od, ho, hl⟩ := lookIn_ns I.ns
  ⟨od, ⟨I.obj, rfl, rfl, ho⟩, hl⟩
section
variable {prog : Program} {w : World} {A : Around} {E : Value → Shared → Prop} {s : Shared} {K : PySem.W.Frag} {x dx C f : Addr} {mA : Str → Option Value} {name : Str} {v : Value}
end
/-! ### the attributes as a list of pairs -/
theorem RelO.some_of {v : V} {o : Option Value} (r : RelO (some v) o) : ∃ u, o = some u ∧ RelV v u := by
  cases o with
  | none => exact (show False from r).elim
  | some u => exact ⟨u, rfl, r⟩
section
variable {P : Program} {w : World} {H H' : Hp} {h h' : Heap} {a C dx : Addr} {fs fs' : List (Str × V)}
end
/-! ### what of the text a class must have -/
structure Cls (K : PySem.W.Frag) (C : Addr) : Prop where
  pg : PySem.W.plainGet K C Str.empty = true
  hd : PySem.W.hasDictIn K C = true
  po : PySem.W.plainOver K C = true
  sa : PySem.W.findIn K (.ref C) "__setattr__" = some (some (.builtin "object.__setattr__"))
theorem Cls.get {K : PySem.W.Frag} {C : Addr} (c : Cls K C) (f : Str) : PySem.W.plainGet K C f = true := c.pg
section
variable {X : Cx} {pins : List (Addr × Obj)} {σ : St} {H : Hp} {s : Shared} {a C dx : Addr} {fs : List (Str × V)} {f : Str} {v : V} {A : Around} {E : Value → Shared → Prop}
end
/-! ### readings and rules -/
section
variable {X : Cx} {o e value : Expr} {f : Str} {pos pos' tpos : Pos} {ta tv : TE}
end
/-! ### isinstance -/
section
variable {X : Cx} {pins : List (Addr × Obj)} {σ : St} {H : Hp} {s : Shared} {A : Around} {E : Value → Shared → Prop} {Q : Value → Shared → Prop} {c : Value} {b : Bool}
end
end L2
namespace L2
open PySem PySem.Spec PyProof.Rows
/-! ### room -/
structure Room (k : Nat) (A : Around) : Prop where
  hd : A.handled = none
  dp : A.depth + 3 * k + 5 < recursionLimit
  un : A.units + 16 * k + 200 < cLine
theorem Room.mono {j k : Nat} {A : Around} (r : Room k A) (h : j ≤ k) : Room j A := ⟨r.hd, by have := r.dp; omega, by have := r.un; omega⟩
theorem Room.deeper {k : Nat} {A : Around} (r : Room (k + 1) A) (env : Env) : Room k (A.deeper env) :=
  ⟨r.hd, by have := r.dp; show A.depth + 1 + 3 * k + 5 < _; omega, by have := r.un; show A.units + 3 + 16 * k + 200 < _; omega⟩
theorem Room.in1 {k : Nat} {A : Around} (r : Room (k + 1) A) : Room k A.in1 :=
  ⟨r.hd, by have := r.dp; show A.depth + 3 * k + 5 < _; omega, by have := r.un; show A.units + 1 + 16 * k + 200 < _; omega⟩
theorem Room.depth {k : Nat} {A : Around} (r : Room k A) : A.depth < recursionLimit := by have := r.dp; omega
theorem Room.units {k : Nat} {A : Around} (r : Room k A) : A.units + 64 < cLine := by have := r.un; omega
/-! ### argument lists and displays -/
def tNil : TA := fun _ H Q => Q [] H
def tCons (ta : TE) (tr : TA) : TA := fun σ H Q => ta σ H fun x H1 => tr σ H1 fun xs H2 => Q (x :: xs) H2
section
variable {X : Cx} {e : Expr} {es : List Expr} {te : TE} {t : TA} {pos : Pos}
theorem pa_nil : PA X [] tNil := fun _ _ _ _ H Q I h => Calls.spliced_nil ⟨[], H, I, .nil, h⟩
theorem pa_cons (ha : PE X e te) (hr : PA X es t) (hs : starEach (e :: es) X.env = (false, eval e X.env) :: starEach es X.env := by rfl) : PA X (e :: es) (tCons te t) := by
  intro pos pins s σ H Q I h
  rw [hs]
  show wpAny _ _ (spliced ((false, eval e X.env) :: backTo pos (starEach es X.env))) _ _ s
  refine Calls.spliced_cons (thn (ha pins s σ H _ I h) fun u s1 ⟨x, H1, I1, r1, q1⟩ => ?_)
  exact thn (hr pos pins s1 σ H1 _ I1 q1) fun us s2 ⟨xs, H2, I2, r2, q2⟩ => ⟨x :: xs, H2, I2, .cons r1 r2, q2⟩
/-- a tuple, a list of written items -/
def tTup (t : TA) : TE := fun σ H Q => t σ H fun xs H1 => xs.length ≤ sizeLine ∧ ∀ p, H1 p = none → Q (.ref p) (upd H1 p (.tup xs))
def tLst (t : TA) : TE := fun σ H Q => t σ H fun xs H1 => xs.length ≤ sizeLine ∧ ∀ p, H1 p = none → Q (.ref p) (upd H1 p (.lst xs))
theorem pe_tup {x1} (h : PA X es t) : PE X (.Tuple es x1 pos) (tTup t) := by
  intro pins s σ H Q I hq
  refine wpAny_Tuple_spliced (thn (h pos pins s σ H _ I hq) fun us s1 ⟨xs, H1, I1, r, z, q⟩ => ⟨by rw [← r.length]; exact z, ?_⟩)
  have hf : H1 s1.heap.objs.size = none := I1.hok.fresh (Nat.le_refl _)
  refine ⟨.ref s1.heap.objs.size, upd H1 s1.heap.objs.size (.tup xs), I1.laid (t' := s1.toks) (fun b u e => Heap.get?_push_of_some _ e) (Nat.le_refl _) ?_, rfl, q _ hf⟩
  exact ⟨z, us, r, ⟨_, Heap.get?_push_size _ rfl, rfl, _, rfl⟩⟩
theorem pe_lst (h : PA X es t) : PE X (.List es pos) (tLst t) := by
  intro pins s σ H Q I hq
  refine wpAny_List_spliced (thn (h pos pins s σ H _ I hq) fun us s1 ⟨xs, H1, I1, r, z, q⟩ => ⟨by rw [← r.length]; exact z, ?_⟩)
  have hf : H1 s1.heap.objs.size = none := I1.hok.fresh (Nat.le_refl _)
  refine ⟨.ref s1.heap.objs.size, upd H1 s1.heap.objs.size (.lst xs), I1.laid (t' := s1.toks) (fun b u e => Heap.get?_push_of_some _ e) (Nat.le_refl _) ?_, rfl, q _ hf⟩
  exact ⟨z, us, 0, r, Heap.get?_push_size _ rfl⟩
end
/-! ### what a def promises -/
/-- a def's promise: the bound arguments in the parameters' order, the heap, the wanted end, the wanted exception -/
abbrev Sp := List V → Hp → VK → XK → Prop
/-- how an exception lies behind a call (file 08 gives it): the callers' frames, abstract heap and state ahead of the call, the wish, the exception, the state -/
abbrev CXT := List Env → Hp → Shared → XK → Value → Shared → Prop
/-- the state at a call -/
structure Env0 (P : Program) (w : World) (K : PySem.W.Frag) (mg : Str → Option Value) (base : Heap) (A : Around) (outer : List Env) (s : Shared) (H : Hp) : Prop where
  frames : A.frames = some outer
  mod : Mod K mg base
  bs : ∀ b o, base.get? b = some o → s.heap.get? b = some o ∧ H b = none
  bsz : base.objs.size ≤ s.heap.objs.size
  funs : s.heap.FunFrames base outer
  frf : ∀ b ∈ frs outer, H b = none
  hok : HOk P w H s.heap
  bare : AllBare s.gens
/-- a call's end -/
def CE (outer : List Env) (P : Program) (w : World) (H : Hp) (s : Shared) (Q : VK) (u : Value) (s' : Shared) : Prop :=
  ∃ v H', s'.os = s.os ∧ AllBare s'.gens ∧ Un (frs outer) [] H H' s.heap s'.heap ∧ HOk P w H' s'.heap ∧ RelV v u ∧ Q v H'
def CR (CX : CXT) (outer : List Env) (P : Program) (w : World) (H : Hp) (s : Shared) (Q : VK) (E : XK) (r : Result) (s' : Shared) : Prop :=
  match r with
  | .ok (.ret u) => CE outer P w H s Q u s'
  | .ok _ => False
  | .error e => CX outer H s E e s'
structure FnOk (P : Program) (w : World) (K : PySem.W.Frag) (mg : Str → Option Value) (base : Heap) (CX : CXT) (k : Nat) (f : Addr) (fd : FuncData) (ps : List Str) (sp : Sp) : Prop where
  len : ∀ vs H Q E, sp vs H Q E → vs.length = ps.length
  run : ∀ (A : Around) (outer : List Env) (s : Shared) (H : Hp) (args : Args) (us : List Value) (vs : List V) (Q : VK) (E : XK), Room k A → Env0 P w K mg base A outer s H → BindsTo s fd args (ps.zip us) → Vals vs us → sp vs H Q E →
    codeAny (model P w) A (.call (.ref f) args) (CR CX outer P w H s Q E) s
theorem FnOk.mono {P : Program} {w : World} {K : PySem.W.Frag} {mg : Str → Option Value} {base : Heap} {CX : CXT} {j k : Nat} {f : Addr} {fd : FuncData} {ps : List Str} {sp : Sp} (F : FnOk P w K mg base CX j f fd ps sp) (h : j ≤ k) :
    FnOk P w K mg base CX k f fd ps sp := ⟨F.len, fun A outer s H args us vs Q E hr => F.run A outer s H args us vs Q E (hr.mono h)⟩
/-- a weaker promise -/
theorem FnOk.imp {P : Program} {w : World} {K : PySem.W.Frag} {mg : Str → Option Value} {base : Heap} {CX : CXT} {k : Nat} {f : Addr} {fd : FuncData} {ps : List Str} {sp sp' : Sp} (F : FnOk P w K mg base CX k f fd ps sp)
    (h : ∀ vs H Q E, sp' vs H Q E → sp vs H Q E) : FnOk P w K mg base CX k f fd ps sp' :=
  ⟨fun vs H Q E q => F.len vs H Q E (h _ _ _ _ q), fun A outer s H args us vs Q E hr he hb hv hs => F.run A outer s H args us vs Q E hr he hb hv (h _ _ _ _ hs)⟩
theorem Env0.in1 {P : Program} {w : World} {K : PySem.W.Frag} {mg : Str → Option Value} {base : Heap} {A : Around} {outer : List Env} {s : Shared} {H : Hp} (e : Env0 P w K mg base A outer s H) :
    Env0 P w K mg base A.in1 outer s H := ⟨e.frames, e.mod, e.bs, e.bsz, e.funs, e.frf, e.hok, e.bare⟩
section
variable {X : Cx} {pins : List (Addr × Obj)} {σ : St} {H : Hp} {s s' : Shared}
/-- from a body: what a callee wants -/
theorem Inv.env0 (I : Inv X pins σ H s) : Env0 X.prog X.w X.K X.mg X.base X.A X.stack s H :=
  ⟨I.ok.frames, I.ok.mod, I.bs, Nat.le_trans I.ok.bsz I.sz, I.stack, I.stkFree, I.hok, I.bare⟩
/-- behind a call -/
theorem Inv.after {Q : VK} {u : Value} (I : Inv X pins σ H s) (h : CE X.stack X.prog X.w H s Q u s') : EP X pins σ Q u s' := by
  obtain ⟨v, H', os, bare, un, hok, r, q⟩ := h
  obtain ⟨hh, g, d, t, os'⟩ := s'
  obtain rfl : os' = s.os := os
  exact ⟨v, H', I.call (h' := hh) (g' := g) (d' := d) (t' := t) (ch := []) un hok bare (fun b z => absurd z (by simp)), r, q⟩
end
/-! ### calls -/
/-- f(..): the written arguments, then the defaults dvs; E: what is wanted of an exception -/
def tCall (sp : Sp) (dvs : List V) (E : XK) (t : TA) : TE := fun σ H Q => t σ H fun vs H1 => sp (vs ++ dvs) H1 Q E
/-- how the parameters are bound: us the positional arguments, kw the keywords' values by name, ds the defaults that fill up -/
def Binds (K : PySem.W.Frag) (fd : FuncData) (ps : List Str) (ds : List Value) : Prop :=
  ∀ (s : Shared) (us : List Value), K.In s.heap → (us ++ ds).length = ps.length → BindsTo s fd ⟨us, []⟩ (ps.zip (us ++ ds))
/-- every parameter is given -/
theorem Binds.all {K : PySem.W.Frag} {fd : FuncData} {ps : List Str} (h : ∀ us : List Value, us.length = ps.length → bindArgs fd ⟨us, []⟩ = pure (ps.zip us)) : Binds K fd ps [] := fun s us _ hl => by
  rw [List.append_nil] at hl ⊢
  exact .of_eq (h us hl)
/-- an exception of a callee reaches what this body wants of exceptions -/
def Passes (CX : CXT) (X : Cx) (E : XK) : Prop := ∀ (pins : List (Addr × Obj)) (σ : St) (H : Hp) (s : Shared) (e : Value) (s' : Shared), Inv X pins σ H s → CX X.stack H s E e s' → X.xe e s'
section
variable {X : Cx} {CX : CXT} {k : Nat} {f C : Addr} {fd : FuncData} {ps : List Str} {sp : Sp} {dvs : List V} {ds : List Value} {E : XK} {x m : Str} {p pos apos : Pos} {e o : Expr} {es : List Expr} {ta : TE} {t : TA}
/-- the callee runs -/
theorem run_fn {pins : List (Addr × Obj)} {σ : St} {H : Hp} {s : Shared} {Q : VK} {us : List Value} {vs : List V} (F : FnOk X.prog X.w X.K X.mg X.base CX k f fd ps sp) (hr : Room k X.A) (hb : Binds X.K fd ps ds) (hd : Vals dvs ds) (hx : Passes CX X E)
    (I : Inv X pins σ H s) (r : Vals vs us) (h : sp (vs ++ dvs) H Q E) : wpAny (model X.prog X.w) X.A (call (.ref f) us) (EP X pins σ Q) X.xe s := by
  have r2 : Vals (vs ++ dvs) (us ++ ds) := r.append hd
  have hl : (us ++ ds).length = ps.length := by rw [← r2.length]; exact F.len _ _ _ _ h
  refine wpAny_call (codeAny_mono (F.run X.A X.stack s H ⟨us, []⟩ (us ++ ds) (vs ++ dvs) Q E hr I.env0 (hb s us I.kIn hl) r2 h) fun r s' hq => ?_)
  cases r with
  | error e => exact hx pins σ H s e s' I hq
  | ok fl =>
    cases fl with
    | ret u => exact I.after hq
    | next => exact False.elim hq
    | brk => exact False.elim hq
    | cont => exact False.elim hq
theorem pe_call (F : FnOk X.prog X.w X.K X.mg X.base CX k f fd ps sp) (hr : Room k X.A) (hg : Gl X x) (hm : X.mg x = some (.ref f)) (hk : PySem.W.keepIn X.K (.ref f) = true) (hb : Binds X.K fd ps ds) (hd : Vals dvs ds) (hx : Passes CX X E)
    (ha : PA X (e :: es) t) (hdb : (x == ("__debug__" : Str)) = false := by decide) (he : starEach (e :: es) X.env = (false, eval e X.env) :: starEach es X.env := by rfl) (hpl : (backTo pos (starEach es X.env)).any (·.1) = false := by rfl) :
    PE X (.Call (.Name x p) (e :: es) [] pos) (tCall sp dvs E t) := by
  intro pins s σ H Q I h
  refine wpAny_Call_Name_kw (ld_glob I hg hm ?_ hdb)
  refine PySem.W.callWith_K (h₀ := X.base) I.ok.mod.kin hk (thn (ha pos pins s σ H _ I h) fun us s1 ⟨vs, H1, I1, r, q⟩ => ⟨I1.kIn, ?_⟩) he hpl
  exact run_fn F hr hb hd hx I1 r q
end
/-! ### keywords -/
section
variable {X : Cx} {CX : CXT} {k : Nat} {f C : Addr} {fd : FuncData} {ps ks : List Str} {sp : Sp} {E : XK} {x m : Str} {p pos apos kpos : Pos} {e o : Expr} {es : List Expr} {kws : List Keyword} {te ta : TE} {t tk : TA} {nm : Option Str}
variable {g : List Value → List Value → List Value} {gV : List V → List V → List V}
end
/-! ### a def's body keeps its promise -/
/-- names: the parameters first -/
structure FnScope (N P : List Str) (sc : Scope) : Prop where
  kind : sc.kind = .function
  co : sc.isCoroutine = false
  gen : sc.isGenerator = false
  nd : N.Nodup
  pre : N.take P.length = P
  par : ∀ x ∈ P, sc.names.lookup x = some .local ∨ sc.names.lookup x = some .cell
  nofree : ∀ y ∈ sc.names, y.2 ≠ .free
theorem bindL_out {kindOf : Str → Option NameKind} {x : Str} : ∀ {binds : List (Str × Value)} {m : Str → Option Value}, (∀ v, (x, v) ∉ binds) → bindL kindOf binds m x = m x
  | [], _, _ => rfl
  | (n, v) :: r, m, h => by
    unfold bindL
    rw [bindL_out fun w hw => h w (List.mem_cons_of_mem _ hw)]
    split
    · have : x ≠ n := by rintro rfl; exact h v List.mem_cons_self
      simp [this]
    · rfl
theorem bindC_out {kindOf : Str → Option NameKind} {x : Str} : ∀ {binds : List (Str × Value)} {m : Str → Option Value}, (∀ v, (x, v) ∉ binds) → bindC kindOf binds m x = m x
  | [], _, _ => rfl
  | (n, v) :: r, m, h => by
    unfold bindC
    rw [bindC_out fun w hw => h w (List.mem_cons_of_mem _ hw)]
    split
    · rfl
    · have : x ≠ n := by rintro rfl; exact h v List.mem_cons_self
      simp [this]
theorem bindL_get {kindOf : Str → Option NameKind} {x : Str} {v : Value} : ∀ {P : List Str} {vs : List Value} {i : Nat} {m : Str → Option Value}, P.Nodup → P[i]? = some x → vs[i]? = some v → kindOf x = some .local →
    bindL kindOf (P.zip vs) m x = some v
  | [], _, _, _, _, h, _, _ => by simp at h
  | _ :: _, [], _, _, _, _, h, _ => by simp at h
  | p :: P, w :: vs, 0, m, nd, h1, h2, hk => by
    simp at h1 h2; subst h1; subst h2
    show bindL kindOf ((p, w) :: P.zip vs) m p = _
    unfold bindL
    rw [bindL_out fun v hv => (List.nodup_cons.mp nd).1 (List.of_mem_zip hv).1, if_pos hk]
    simp
  | p :: P, w :: vs, i + 1, m, nd, h1, h2, hk => by
    show bindL kindOf ((p, w) :: P.zip vs) m x = _
    unfold bindL
    exact bindL_get (i := i) (List.nodup_cons.mp nd).2 (by simpa using h1) (by simpa using h2) hk
theorem bindC_get {kindOf : Str → Option NameKind} {x : Str} {v : Value} : ∀ {P : List Str} {vs : List Value} {i : Nat} {m : Str → Option Value}, P.Nodup → P[i]? = some x → vs[i]? = some v → kindOf x ≠ some .local →
    bindC kindOf (P.zip vs) m x = some v
  | [], _, _, _, _, h, _, _ => by simp at h
  | _ :: _, [], _, _, _, _, h, _ => by simp at h
  | p :: P, w :: vs, 0, m, nd, h1, h2, hk => by
    simp at h1 h2; subst h1; subst h2
    show bindC kindOf ((p, w) :: P.zip vs) m p = _
    unfold bindC
    rw [bindC_out fun v hv => (List.nodup_cons.mp nd).1 (List.of_mem_zip hv).1, if_neg hk]
    simp
  | p :: P, w :: vs, i + 1, m, nd, h1, h2, hk => by
    show bindC kindOf ((p, w) :: P.zip vs) m x = _
    unfold bindC
    exact bindC_get (i := i) (List.nodup_cons.mp nd).2 (by simpa using h1) (by simpa using h2) hk
/-- the names' values at the entry -/
def start (N : List Str) (vs : List V) : St := vs.map some ++ List.replicate (N.length - vs.length) none
/-- the context of a def's body, at its entry; an exception leaves the frame, then lies as CX says -/
def cxOf (CX : CXT) (P : Program) (w : World) (K : PySem.W.Frag) (mg : Str → Option Value) (base : Heap) (N : List Str) (qual : Str) (scope : Scope) (f : Addr) (cd : Value) (A : Around) (outer : List Env) (s : Shared) (H : Hp) (E : XK) : Cx where
  prog := P
  w := w
  K := K
  mg := mg
  base := base
  A := A.deeper (envOfC qual scope s.heap.objs.size f cd)
  N := N
  s₀ := s
  H₀ := H
  env := envOfC qual scope s.heap.objs.size f cd
  outer := outer
  stack := envOfC qual scope s.heap.objs.size f cd :: outer
  ex := []
  calm := true
  fn := fun _ => true
  pn := []
  xe := fun e s' => wpAny (model P w) (A.deeper (envOfC qual scope s.heap.objs.size f cd)) (leaving (envOfC qual scope s.heap.objs.size f cd) e) (fun _ s'' => CX outer H s E e s'') (fun e' s'' => CX outer H s E e' s'') s'
theorem cell_has {sc : Scope} {n : Nat} {x : Str} (h : sc.names.lookup x = some .cell) : ∃ c, (cellsFrom n sc.names []).lookup x = some c := by
  have q := PySem.W.cellsFrom_some sc.names n [] (.inl h)
  exact Option.isSome_iff_exists.mp q
theorem inv_start {CX : CXT} {P : Program} {w : World} {K : PySem.W.Frag} {mg : Str → Option Value} {base : Heap} {N ps : List Str} {qual : Str} {scope : Scope} {f : Addr} {cd : Value} {A : Around} {outer : List Env} {s s1 : Shared} {H : Hp} {E : XK} {us : List Value} {vs : List V}
    (S : FnScope N ps scope) (hd : A.handled = none) (e0 : Env0 P w K mg base A outer s H) (hl : vs.length = ps.length) (r : Vals vs us)
    (x : InCallC s s.heap.objs.size (bindL (envOfC qual scope s.heap.objs.size f cd).kindOf (ps.zip us) fun _ => none) (cellsFrom (s.heap.objs.size + 1) scope.names []) (bindC (envOfC qual scope s.heap.objs.size f cd).kindOf (ps.zip us) fun _ => none) s1) :
    Inv (cxOf CX P w K mg base N qual scope f cd A outer s H E) [] (start N vs) H s1 := by
  have hpl : ps.length ≤ N.length := by have := congrArg List.length S.pre; rw [List.length_take] at this; omega
  obtain ⟨h1, tk, rfl, hk⟩ := x.done
  have noA : ∀ b : Addr, b ∉ (cxOf CX P w K mg base N qual scope f cd A outer s H E).ex := fun b z => absurd (show b ∈ ([] : List Addr) from z) (by simp)
  refine ⟨⟨e0.mod, S.kind, rfl, rfl, Nat.le_refl _, fun y z c h1 h2 => ?_, fun y hy => ?_, fun y c _ h => ?_, fun _ => hd, Around.frames_deeper e0.frames, .inr ⟨rfl, rfl⟩, fun b z => absurd z (noA b), e0.bs, e0.bsz, fun b _ _ => noA b, fun b z => absurd z (noA b), e0.funs, e0.frf⟩,
    rfl, e0.bare, Un.kept hk, ⟨_, x.toInCall.ns, fun i y v h1 h2 h3 => ?_⟩, fun y c h => ⟨_, x.cell y c h⟩, e0.hok.fresh (Nat.le_refl _), fun y c h => ?_, fun p hp => absurd (show p ∈ ([] : List (Addr × Obj)) from hp) (by simp), e0.hok.kept hk, ?_⟩
  · exact name_of_addr x.apart (PySem.mem_of_lookup h1) (PySem.mem_of_lookup h2)
  · have hy : scope.names.lookup y = some .cell ∨ scope.names.lookup y = some .free := hy
    rcases hy with hy | hy
    · exact cell_has hy
    · exact absurd rfl (S.nofree _ (PySem.mem_of_lookup hy))
  · exact Nat.le_of_lt (x.above y c (PySem.mem_of_lookup h))
  · have hi : i < vs.length := by
      unfold start at h2
      by_cases hi : i < vs.length
      · exact hi
      · rw [List.getElem?_append_right (by simpa using hi)] at h2
        rw [List.getElem?_replicate] at h2
        split at h2 <;> cases h2
    have ha : vs[i]? = some v := by
      unfold start at h2
      rw [List.getElem?_append_left (by simpa using hi), List.getElem?_map] at h2
      cases e : vs[i]? with
      | none => rw [e] at h2; cases h2
      | some a => rw [e] at h2; cases h2; rfl
    obtain ⟨u, hu, rv⟩ := r.get ha
    have hp : ps[i]? = some y := by
      rw [← S.pre, List.getElem?_take_of_lt (by omega)]; exact h1
    have ndP : ps.Nodup := by rw [← S.pre]; exact S.nd.sublist (List.take_sublist _ _)
    refine ⟨u, rv, ?_⟩
    rcases S.par y (List.mem_of_getElem? hp) with k | k
    · exact .inl ⟨k, bindL_get ndP hp hu k⟩
    · obtain ⟨c, e⟩ := cell_has (n := s.heap.objs.size + 1) k
      refine .inr ⟨.inl k, c, e, ?_⟩
      have q := x.cell y c e
      rw [bindC_get ndP hp hu (by show scope.names.lookup y ≠ _; rw [k]; decide)] at q
      exact q
  · exact e0.hok.fresh (Nat.le_of_lt (x.above y c (PySem.mem_of_lookup h)))
  · unfold start
    show _ = N.length
    rw [List.length_append, List.length_map, List.length_replicate]
    omega
/-- THE RULE: a def (or a method) of the text, by its body. The body's reading t is chosen for each entry; it is run at the parameters' values -/
theorem fn_of {CX : CXT} {P : Program} {w : World} {K : PySem.W.Frag} {mg : Str → Option Value} {base : Heap} {k : Nat} {f : Addr} {name qual : Str} {params : Arguments} {body : List Stmt} {scope : Scope} {dV kV doc pm cdv ct oc : Value} {an od : Option Addr}
    {osl : Array (Option Value)} {N ps : List Str} {sp : Sp} (lk : K.lookup f = some ⟨oc, od, .func (PySem.W.fnOf name qual params body scope dV kV doc pm an cdv ct), osl⟩) (hcd : PySem.W.codeIn K cdv qual = true) (S : FnScope N ps scope)
    (len : ∀ vs H Q E, sp vs H Q E → vs.length = ps.length)
    (hbody : ∀ (A : Around) (outer : List Env) (s : Shared) (H : Hp) (vs : List V) (Q : VK) (E : XK), Room k (A.deeper (envOfC qual scope s.heap.objs.size f cdv)) → sp vs H Q E →
      ∃ t, PSs (cxOf CX P w K mg base N qual scope f cdv A outer s H E) body t ∧ t { nx := fun _ H' => Q .non H', rt := Q } (start N vs) H) :
    FnOk P w K mg base CX (k + 1) f (PySem.W.fnOf name qual params body scope dV kV doc pm an cdv ct) ps sp := by
  refine ⟨len, fun A outer s H args us vs Q E hr e0 hb r hsp => ?_⟩
  have hl := len _ _ _ _ hsp
  have KX : K.In s.heap := e0.mod.kin.keeps fun b o e => (e0.bs b o e).1
  have lim : s.heap.NoLimit := e0.mod.nolimit.keeps fun b o e => (e0.bs b o e).1
  have hkind : ∀ y ∈ ps.zip us, scope.names.lookup y.1 = some .local ∨ (scope.names.lookup y.1 = some .cell ∧ ((cellsFrom (s.heap.objs.size + 1) scope.names []).lookup y.1).isSome = true) := fun ⟨n, v⟩ hy => by
    rcases S.par n (List.of_mem_zip hy).1 with q | q
    · exact .inl q
    · exact .inr ⟨q, PySem.W.cellsFrom_some _ _ _ (.inl q)⟩
  refine codeAny_call_function hr.depth (KX _ _ lk) rfl S.co S.gen rfl (PySem.W.codeRec_of KX hcd) (hb _ _ _ _ ?_)
  refine wpAny_newFunctionEnv_cells S.kind hkind fun env he s1 x => ?_
  subst he
  refine ⟨lim.keeps x.toInCall.keep, codeAny_func ?_⟩
  obtain ⟨t, ht, hq⟩ := hbody A outer s H vs Q E (hr.deeper _) hsp
  have I : Inv (cxOf CX P w K mg base N qual scope f cdv A outer s H E) [] (start N vs) H s1 := inv_start S hr.hd e0 hl r x
  refine wpAny_mono (ht [] s1 (start N vs) H _ I hq) (fun fl s' hs => ?_) fun e s' hs => hs
  have fin : ∀ {σ' : St} {H' : Hp} {v : V} {u : Value}, Inv (cxOf CX P w K mg base N qual scope f cdv A outer s H E) [] σ' H' s' → RelV v u → Q v H' → CE outer P w H s Q u s' :=
    fun {σ' H' v u} J rv q => ⟨v, H', J.os, J.bare, J.base, J.hok, rv, q⟩
  cases fl with
  | ret u =>
    obtain ⟨v, σ', H', J, rv, q⟩ := hs
    exact fin J rv q
  | next =>
    obtain ⟨σ', H', J, q⟩ := hs
    exact fin (v := V.non) (u := Value.none) J rfl q
  | brk =>
    obtain ⟨_, _, _, q⟩ := hs
    exact False.elim q
  | cont =>
    obtain ⟨_, _, _, q⟩ := hs
    exact False.elim q
end L2
namespace L2
open PySem PySem.Spec PyProof.Rows
section
variable {X : Cx} {x : Str} {p pos : Pos} {e : Expr} {es : List Expr} {t : TA} {id T : String} {r : List V → Hp → VK → Prop}
def tCB (r : List V → Hp → VK → Prop) (t : TA) : TE := fun σ H Q => t σ H fun vs H1 => r vs H1 Q
/-- f(e, ..), f a built-in function -/
theorem pe_callB (hc : CallR X (.builtin id) r) (hg : Gl X x) (hm : X.mg x = none) (hv : bootBuiltins x = some (.builtin id)) (ha : PA X (e :: es) t) (hn : x ≠ "__name__" := by decide) (hdb : (x == ("__debug__" : Str)) = false := by decide)
    (he : starEach (e :: es) X.env = (false, eval e X.env) :: starEach es X.env := by rfl) (hpl : (backTo pos (starEach es X.env)).any (·.1) = false := by rfl) : PE X (.Call (.Name x p) (e :: es) [] pos) (tCB r t) := by
  intro pins s σ H Q I h
  refine wpAny_Call_Name_kw (ld_blt I hg hm hv ?_ hn hdb)
  exact PyProof.Rows.callWith_builtin1 (thn (ha pos pins s σ H _ I h) fun us s1 ⟨vs, H1, I1, r1, q1⟩ => hc pins s1 σ H1 vs us Q I1 r1 q1) he hpl
/-- T(e, ..), T a built-in type -/
theorem pe_callTy (hc : CallR X (.type T) r) (hg : Gl X x) (hm : X.mg x = none) (hv : bootBuiltins x = some (.type T)) (ha : PA X (e :: es) t) (hn : x ≠ "__name__" := by decide) (hdb : (x == ("__debug__" : Str)) = false := by decide)
    (he : starEach (e :: es) X.env = (false, eval e X.env) :: starEach es X.env := by rfl) (hpl : (backTo pos (starEach es X.env)).any (·.1) = false := by rfl) : PE X (.Call (.Name x p) (e :: es) [] pos) (tCB r t) := by
  intro pins s σ H Q I h
  refine wpAny_Call_Name_kw (ld_blt I hg hm hv ?_ hn hdb)
  exact PyProof.Rows.callWith_type1 (thn (ha pos pins s σ H _ I h) fun us s1 ⟨vs, H1, I1, r1, q1⟩ => hc pins s1 σ H1 vs us Q I1 r1 q1) he hpl
end
end L2
namespace HT
open PySem PyProof.Rows
/-- t < u of tuples of ints -/
def lexLt : List Int → List Int → Bool
  | [], [] => false
  | [], _ :: _ => true
  | _ :: _, [] => false
  | x :: xs, y :: ys => if x = y then lexLt xs ys else decide (x < y)
theorem lexLt_cons (x y : Int) (xs ys : List Int) : lexLt (x :: xs) (y :: ys) = if x = y then lexLt xs ys else decide (x < y) := rfl
theorem lexLt_nil_nil : lexLt [] [] = false := rfl
theorem lexLt_nil_cons (y : Int) (ys : List Int) : lexLt [] (y :: ys) = true := rfl
theorem lexLt_cons_nil (x : Int) (xs : List Int) : lexLt (x :: xs) [] = false := rfl
theorem eqAt_int (A : Around) (s : Shared) (a : Int) (t : Tok) (c : Int) (u : Tok) : ∃ e, SeqAt.EqAt A s (.int a t) (.int c u) e ∧ (e = true ↔ a = c) :=
  ⟨(a == c), SeqAt.EqAt.int_int a t c u, by simp⟩
theorem rcLt_int (A : Around) (s : Shared) (a : Int) (t : Tok) (c : Int) (u : Tok) (prog : Program) (w : World) (E : Value → Shared → Prop) (Q : Value → Shared → Prop) (h : Q (.bool (decide (a < c))) s) :
    wpAny (model prog w) A (richCompare .Lt (.int a t) (.int c u)) Q E s :=
  (PyProof.Rows.lt_int h : wpAny (model prog w) A (compareOp .Lt (.int a t) (.int c u)) Q E s)
section
open PySem.SeqAt
open PySem.AutoSeq1 (wpAny_loadPart')
open PySem.MeetsSeq PySem.MeetsSeq2 PySem.MeetsSeq3
theorem tuple_lt_ints (l b : Addr) (items items2 : Array Value) (n n2 : Nat) (dd dd2 : Option Addr) (sl sl2 : Array (Option Value)) (ns ms : List Int) (hi : IntsAre items.toList ns) (hj : IntsAre items2.toList ms) :
    Meets (Builtin.«tuple.__lt__» ⟨[.ref l, .ref b], []⟩)
      (fun _ R s => s.heap.get? l = some { cls := .type "tuple", dict := dd, data := .seq items n, slots := sl } ∧ s.heap.get? b = some { cls := .type "tuple", dict := dd2, data := .seq items2 n2, slots := sl2 } ∧
        R (.ok (.ret (.bool (lexLt ns ms)))) s) :=
  .of_wp fun prog w A R s h => by
    obtain ⟨hp, g, d, tk, os⟩ := s; obtain ⟨hl, hb, h⟩ := h
    have f2 := AutoSeq1.sub_tuple_tuple
    have z1 : items.size = ns.length := by rw [← hi.length]; simp
    have z2 : items2.size = ms.length := by rw [← hj.length]; simp
    wp_walk using wpAny_loadPart' hl, wpAny_loadPart' hb, wpAny_forIn_list _ (fun rest b s' => b.1 = none ∧ s' = ⟨hp, g, d, tk, os⟩ ∧ ∃ (vs ws : List Value) (ns' ms' : List Int), rest = vs.zip ws ∧
      IntsAre vs ns' ∧ IntsAre ws ms' ∧ ns'.length + items2.size = ms'.length + items.size ∧ R (.ok (.ret (.bool (lexLt ns' ms')))) ⟨hp, g, d, tk, os⟩) _
    case turn =>
      rintro ⟨y, x⟩ rest b s' ⟨hb', rfl, vs, ws, ns', ms', hz, hvi, hwi, hlen, hR⟩
      cases hvi with
      | nil => rw [List.zip_nil_left] at hz; cases hz
      | cons a t hvi' =>
        cases hwi with
        | nil => rw [List.zip_nil_right] at hz; cases hz
        | cons c u hwi' =>
          rw [List.zip_cons_cons] at hz
          injection hz with hyx hrest
          injection hyx with hy hx
          subst hy hx
          rw [lexLt_cons] at hR
          simp only [List.length_cons] at hlen
          obtain ⟨e, he, hiff⟩ := eqAt_int A.in1 ⟨hp, g, d, tk, os⟩ a t c u
          refine wpAny_bind (he prog w _ _ ?_)
          cases e with
          | true =>
            rw [if_pos (hiff.mp rfl)] at hR
            wp_walk
            exact ⟨rfl, rfl, _, _, _, _, hrest, hvi', hwi', by omega, hR⟩
          | false =>
            rw [if_neg (fun q => absurd (hiff.mpr q) Bool.false_ne_true)] at hR
            have hri := rcLt_int A.in1 ⟨hp, g, d, tk, os⟩ a t c u prog w
            wp_walk using hri
            exact ⟨_, rfl, by simpa using hR⟩
    case fin =>
      rintro ⟨b1, b2⟩ s' ⟨hb', rfl, vs, ws, ns', ms', hz, hvi, hwi, hlen, hR⟩
      simp only at hb'
      subst hb'
      have hv : lexLt ns' ms' = decide (items.size < items2.size) := by
        cases hvi with
        | nil =>
          cases hwi with
          | nil =>
            simp only [List.length_nil] at hlen
            rw [lexLt_nil_nil]
            exact (decide_eq_false (by omega)).symm
          | cons c u hw =>
            simp only [List.length_nil, List.length_cons] at hlen
            rw [lexLt_nil_cons]
            exact (decide_eq_true (by omega)).symm
        | cons a t hv =>
          cases hwi with
          | nil =>
            simp only [List.length_nil, List.length_cons] at hlen
            rw [lexLt_cons_nil]
            exact (decide_eq_false (by omega)).symm
          | cons c u hw =>
            rw [List.zip_cons_cons] at hz
            cases hz
      rw [hv] at hR
      wp_walk
      exact ⟨_, rfl, by simpa [Builtin.Tuple.tupleCompareSizes] using hR⟩
    case h =>
      exact ⟨rfl, rfl, items.toList, items2.toList, ns, ms, rfl, hi, hj, by omega, h⟩
end
section
variable {prog : Program} {w : World} {A : Around} {E : Value → Shared → Prop} {s : Shared}
theorem lt_tupInts {l b : Addr} {items items2 : Array Value} {ns ms : List Int} {Q : Value → Shared → Prop} (hl : IsTup s.heap l items) (hb : IsTup s.heap b items2) (hi : IntsAre items.toList ns) (hj : IntsAre items2.toList ms)
    (hu : A.units < cLine) (h : Q (.bool (lexLt ns ms)) s) : wpAny (model prog w) A (compareOp .Lt (.ref l) (.ref b)) Q E s := by
  obtain ⟨⟨cls, dd, data, sl⟩, ho, hc, n, hd⟩ := id hl
  obtain ⟨⟨cls2, dd2, data2, sl2⟩, ho2, hc2, n2, hd2⟩ := id hb
  simp only at hc hd hc2 hd2
  subst hc hd hc2 hd2
  exact richCompare_meets_room (op := .Lt) ⟨_, ho, rfl⟩ ⟨_, ho2, rfl⟩ PySem.F.slot_tuple_lt PySem.F.entry_tuple_lt (PySem.F.args_tuple_lt_2 _ _) (tuple_lt_ints l b items items2 n n2 dd dd2 sl sl2 ns ms hi hj)
    ⟨ho, ho2, show Value.bool (lexLt ns ms) ≠ Value.notImplemented ∧ Q (.bool (lexLt ns ms)) s from ⟨(fun x => nomatch x), h⟩⟩ hu
/-! ### t[a:b], not the whole -/
/-- a slice's bound as a place among n (d where it is left out) -/
def sIx (n d : Nat) : Option Int → Nat
  | none => d
  | some v => if v < 0 then (v + (n : Int)).toNat else min v.toNat n
theorem sIx_none (n d : Nat) : sIx n d none = d := rfl
theorem sIx_nat (n d k : Nat) : sIx n d (some (k : Int)) = min k n := by
  show (if (k : Int) < 0 then ((k : Int) + (n : Int)).toNat else min (k : Int).toNat n) = min k n
  rw [if_neg (by omega), Int.toNat_natCast]
end
end HT
namespace L2
open PySem PySem.Spec PyProof.Rows
/-! ### the parts of a slice -/
abbrev TO := St → Hp → (Option Int → Hp → Prop) → Prop
/-- a slice's part (left out, or an int) -/
def PO (X : Cx) (e : Option Expr) (t : TO) : Prop :=
  ∀ (pins : List (Addr × Obj)) (s : Shared) (σ : St) (H : Hp) (Q : Option Int → Hp → Prop), Inv X pins σ H s → t σ H Q →
    wpAny (model X.prog X.w) X.A (evalPart e X.env) (fun u s' => ∃ o H', Inv X pins σ H' s' ∧ IsPart u o ∧ Q o H') X.xe s
def tNoPart : TO := fun _ H Q => Q none H
def tPart (t : TE) : TO := fun σ H Q => t σ H fun x H1 => ∃ i, x = .int i ∧ Q (some i) H1
theorem intsAre_of {ns : List Int} : ∀ {us : List Value}, Vals (ns.map V.int) us → IntsAre us ns := by
  induction ns with
  | nil => intro us r; rw [List.map_nil] at r; cases r; exact .nil
  | cons n ns ih =>
    intro us r
    rw [List.map_cons] at r
    cases r with
    | cons r1 r2 =>
      obtain ⟨t, e⟩ := r1
      subst e
      exact .cons n t (ih r2)
section
variable {X : Cx} {e : Expr} {te : TE} {lo hi : Option Expr} {tl th : TO} {pos p2 : Pos}
theorem po_none : PO X none tNoPart := by
  intro pins s σ H Q I h
  rw [evalPart_none]
  exact wpAny_pure ⟨none, H, I, .none, h⟩
theorem po_some (h : PE X e te) : PO X (some e) (tPart te) := by
  intro pins s σ H Q I hw
  rw [evalPart_some]
  refine thn (h pins s σ H _ I hw) fun u s1 ⟨x, H1, I1, r1, q1⟩ => ?_
  obtain ⟨i, rfl, q⟩ := q1
  obtain ⟨t, rfl⟩ := r1
  exact ⟨some i, H1, I1, .int i t, q⟩
/-- what a slice of a value is, by values: the slice object stands at sl -/
def SlR (X : Cx) (r : V → Option Int → Option Int → Hp → VK → Prop) : Prop :=
  ∀ (pins : List (Addr × Obj)) (s : Shared) (σ : St) (H : Hp) (x : V) (v vl vu : Value) (lo hi : Option Int) (sl : Addr) (Q : VK), Inv X pins σ H s → RelV x v → s.heap.IsSliceOf sl vl vu .none → IsPart vl lo → IsPart vu hi → r x lo hi H Q →
    ∃ T id, typeLookup (.type T) "__getitem__" = pure (some (.builtin id)) ∧ s.TypeIs v T ∧ wpAny (model X.prog X.w) X.A (getItem v (.ref sl)) (EP X pins σ Q) X.xe s
theorem SlR.or {r r' : V → Option Int → Option Int → Hp → VK → Prop} (h : SlR X r) (h' : SlR X r') : SlR X (fun x lo hi H Q => r x lo hi H Q ∨ r' x lo hi H Q) := by
  intro pins s σ H x v vl vu lo hi sl Q I rx hs pl pu q
  rcases q with q | q
  · exact h pins s σ H x v vl vu lo hi sl Q I rx hs pl pu q
  · exact h' pins s σ H x v vl vu lo hi sl Q I rx hs pl pu q
def tSl (r : V → Option Int → Option Int → Hp → VK → Prop) (te : TE) (tl th : TO) : TE := fun σ H Q => te σ H fun x H1 => tl σ H1 fun l H2 => th σ H2 fun u H3 => r x l u H3 Q
/-- a[lo:hi], any a -/
theorem pe_slice {r : V → Option Int → Option Int → Hp → VK → Prop} (hr : SlR X r) (he : PE X e te) (hl : PO X lo tl) (hu : PO X hi th) : PE X (.Subscript e (.Slice lo hi none p2) pos) (tSl r te tl th) := by
  intro pins s σ H Q I h
  refine Subscript_ (thn (he pins s σ H _ I h) fun v s1 ⟨x, H1, I1, r1, q1⟩ => ?_)
  refine wpAny_Slice (thn (hl pins s1 σ H1 _ I1 q1) fun vl s2 ⟨l, H2, I2, pl, q2⟩ => thn (hu pins s2 σ H2 _ I2 q2) fun vu s3 ⟨u, H3, I3, pu, q3⟩ => ?_)
  rw [evalPart_none]
  refine wpAny_pure ?_
  have I4 : Inv X pins σ H3 { s3 with heap := s3.heap.push { cls := .type "slice", data := .fields #[vl, vu, .none] } } := I3.kept (t' := s3.toks) fun b ob q => Heap.get?_push_of_some _ q
  obtain ⟨T, id, hT, ht, hg⟩ := hr pins { s3 with heap := s3.heap.push { cls := .type "slice", data := .fields #[vl, vu, .none] } } σ H3 x v vl vu l u s3.heap.objs.size Q I4 r1 (Heap.IsSliceOf.new ..) pl pu q3
  show wpAny (model X.prog X.w) X.A (subscriptTail e (.Slice lo hi none p2) v (.ref s3.heap.objs.size)) (EP X pins σ Q) X.xe { s3 with heap := s3.heap.push { cls := .type "slice", data := .fields #[vl, vu, .none] } }
  exact tail_any (ops := [.ref s3.heap.objs.size, v]) ht hT hg (by with_unfolding_all rfl)
/-- the items of xs[lo:hi] -/
def cutV (xs : List V) (lo hi : Option Int) : List V := (xs.drop (HT.sIx xs.length 0 lo)).take (HT.sIx xs.length xs.length hi - HT.sIx xs.length 0 lo)
theorem cutV_length (xs : List V) (lo hi : Option Int) : (cutV xs lo hi).length ≤ xs.length := by
  unfold cutV
  rw [List.length_take, List.length_drop]
  omega
/-! ### t < u, t + u -/
def rLtT (K : PySem.W.Frag) : R2 := fun x y H Q => ∃ a b ns ms, x = .ref a ∧ y = .ref b ∧ SqT K H a (ns.map V.int) ∧ SqT K H b (ms.map V.int) ∧ Q (.bl (HT.lexLt ns ms)) H
theorem op_ltT (hu : X.A.units < cLine) : OpR X (compareOp .Lt) (rLtT X.K) := by
  intro pins s σ H x y v u Q I rx ry h
  obtain ⟨a, b, ns, ms, rfl, rfl, ha, hb, q⟩ := h
  cases rx
  cases ry
  obtain ⟨its, r1, p1, _⟩ := I.tuple ha
  obtain ⟨its2, r2, p2, _⟩ := I.tuple hb
  have i1 : IntsAre its.toArray.toList ns := intsAre_of r1
  have i2 : IntsAre its2.toArray.toList ms := intsAre_of r2
  exact HT.lt_tupInts p1 p2 i1 i2 hu ⟨.bl (HT.lexLt ns ms), H, I, rfl, q⟩
end
end L2
namespace L2
open PySem PySem.Spec PyProof.Rows
/-! ### places -/
/-- the place that an index of any sign means -/
def ixN (n : Nat) (i : Int) : Option Nat := if 0 ≤ i then (if i < n then some i.toNat else none) else if -(n : Int) ≤ i then some (i + n).toNat else none
def atI {α : Type} (xs : List α) (i : Int) : Option α := (ixN xs.length i).bind fun j => xs[j]?
theorem ixN_seq {n : Nat} {i : Int} {j : Nat} (h : ixN n i = some j) : seqIndex? i n = some j ∧ j < n ∧ -(n : Int) ≤ i ∧ i < n := by
  unfold ixN at h
  by_cases h0 : 0 ≤ i
  · rw [if_pos h0] at h
    by_cases h1 : i < n
    · rw [if_pos h1] at h
      have e : i.toNat = j := Option.some.inj h
      exact ⟨by rw [seqIndex_of h0 h1, e], by omega, by omega, h1⟩
    · rw [if_neg h1] at h; cases h
  · rw [if_neg h0] at h
    by_cases h1 : -(n : Int) ≤ i
    · rw [if_pos h1] at h
      have e : (i + n).toNat = j := Option.some.inj h
      exact ⟨by rw [seqIndex_neg (by omega) h1, e], by omega, h1, by omega⟩
    · rw [if_neg h1] at h; cases h
theorem atI_get {α : Type} {xs : List α} {i : Int} {v : α} (h : atI xs i = some v) : ∃ j, seqIndex? i xs.length = some j ∧ xs[j]? = some v ∧ j < xs.length ∧ -(xs.length : Int) ≤ i ∧ i < xs.length := by
  unfold atI at h
  cases e : ixN xs.length i with
  | none => rw [e] at h; cases h
  | some j =>
    rw [e] at h
    obtain ⟨h1, h2, h3, h4⟩ := ixN_seq e
    exact ⟨j, h1, h, h2, h3, h4⟩
theorem atI_nat {α : Type} {xs : List α} {j : Nat} {v : α} (h : xs[j]? = some v) : atI xs (j : Int) = some v := by
  have hj : j < xs.length := (List.getElem?_eq_some_iff.mp h).1
  have e : ixN xs.length (j : Int) = some j := by
    unfold ixN
    rw [if_pos (by omega), if_pos (by omega)]; simp
  unfold atI; rw [e]; exact h
/-! ### what may be subscripted -/
/-- what stands as an index of a plain subscript -/
def PlainIx (b : Expr) : Prop := ∀ o i, subscripted b false o i = operate [o, i] (getItem o i)
/-- a subscript by values -/
def IxR (X : Cx) (r : R2) : Prop :=
  ∀ (value slice : Expr) (pins : List (Addr × Obj)) (s : Shared) (σ : St) (H : Hp) (x y : V) (v u : Value) (Q : VK), Inv X pins σ H s → RelV x v → RelV y u → r x y H Q →
    subscripted slice false v u = operate [v, u] (getItem v u) → wpAny (model X.prog X.w) X.A (subscriptTail value slice v u) (EP X pins σ Q) X.xe s
/-- a call of a builtin's method by values: the receiver, the arguments -/
def MtR (X : Cx) (id : String) (r : V → List V → Hp → VK → Prop) : Prop :=
  ∀ (pins : List (Addr × Obj)) (s : Shared) (σ : St) (H : Hp) (x : V) (xs : List V) (v : Value) (us : List Value) (Q : VK), Inv X pins σ H s → RelV x v → Vals xs us → r x xs H Q →
    wpAny (model X.prog X.w) X.A (call (.builtin id) (v :: us)) (EP X pins σ Q) X.xe s
section
variable {X : Cx} {a b : Expr} {ta tb : TE} {pos : Pos}
theorem IxR.or {r r' : R2} (h : IxR X r) (h' : IxR X r') : IxR X (fun x y H Q => r x y H Q ∨ r' x y H Q) := by
  intro value slice pins s σ H x y v u Q I rx ry q hs
  rcases q with q | q
  · exact h value slice pins s σ H x y v u Q I rx ry q hs
  · exact h' value slice pins s σ H x y v u Q I rx ry q hs
theorem MtR.or {id : String} {r r' : V → List V → Hp → VK → Prop} (h : MtR X id r) (h' : MtR X id r') : MtR X id (fun x xs H Q => r x xs H Q ∨ r' x xs H Q) := by
  intro pins s σ H x xs v us Q I rx rs q
  rcases q with q | q
  · exact h pins s σ H x xs v us Q I rx rs q
  · exact h' pins s σ H x xs v us Q I rx rs q
/-- a[b] -/
theorem pe_ix {r : R2} (hr : IxR X r) (ha : PE X a ta) (hb : PE X b tb) (hs : PlainIx b) : PE X (.Subscript a b pos) (tOp r ta tb) := by
  intro pins s σ H Q I h
  exact Subscript_ (binT ha hb I h fun v u s2 x y H2 I2 rx ry q => hr a b pins s2 σ H2 x y v u Q I2 rx ry q (hs _ _))
def rIxL (K : PySem.W.Frag) : R2 := fun x y H Q => ∃ p xs i v, x = .ref p ∧ y = .int i ∧ SqL K H p xs ∧ atI xs i = some v ∧ Q v H
def rIxT (K : PySem.W.Frag) : R2 := fun x y H Q => ∃ p xs i v, x = .ref p ∧ y = .int i ∧ SqT K H p xs ∧ atI xs i = some v ∧ Q v H
theorem ix_list : IxR X (rIxL X.K) := by
  intro value slice pins s σ H x y v u Q I rx ry h hs
  obtain ⟨p, xs, i, z, rfl, rfl, hq, he, q⟩ := h
  cases rx
  obtain ⟨t, rfl⟩ := ry
  obtain ⟨its, r, pl, hz⟩ := I.list hq
  obtain ⟨j, h1, h2, h3, h4, h5⟩ := atI_get he
  obtain ⟨w, ew, rw'⟩ := r.get h2
  have hl := r.length
  have hn := line63
  have fin : EP X pins σ Q w s := ⟨z, H, I, rw', q⟩
  by_cases h0 : 0 ≤ i
  · have hj : i.toNat = j := by
      rw [seqIndex_of h0 h5] at h1
      exact Option.some.inj h1
    exact item_listR pl.isList h0 (by omega) (by rw [hj]; simpa using ew) fin hs
  · have hj : (i + (its.toArray.size : Int)).toNat = j := by
      rw [seqIndex_neg (by omega) h4] at h1
      rw [List.size_toArray, ← hl]
      exact Option.some.inj h1
    exact subscriptTail_builtinR (x := w) pl.isList.typeIs slot_list_getitem.lookup
      (wpAny_getItem_list_neg (Q := fun r s' => r = w ∧ EP X pins σ Q r s') pl.isList (by omega) (by rw [List.size_toArray] <;> omega) (by omega) (by rw [hj]; simpa using ew) ⟨rfl, fin⟩) hs
theorem ix_tup : IxR X (rIxT X.K) := by
  intro value slice pins s σ H x y v u Q I rx ry h hs
  obtain ⟨p, xs, i, z, rfl, rfl, hq, he, q⟩ := h
  cases rx
  obtain ⟨t, rfl⟩ := ry
  obtain ⟨its, r, pl, hz⟩ := I.tuple hq
  obtain ⟨j, h1, h2, h3, h4, h5⟩ := atI_get he
  obtain ⟨w, ew, rw'⟩ := r.get h2
  have hl := r.length
  have hn := line63
  have fin : EP X pins σ Q w s := ⟨z, H, I, rw', q⟩
  exact subscriptTail_builtinR (x := w) pl.typeIs slot_tuple_getitem.lookup
    (getItem_tuple (j := j) (Q := fun r s' => r = w ∧ EP X pins σ Q r s') pl (by omega) (by omega) (by rw [List.size_toArray, ← hl]; exact h1) (by simpa using ew) ⟨rfl, fin⟩) hs
/-! ### xs[i] = v, any sign -/
theorem Inv.lst {pins : List (Addr × Obj)} {σ : St} {H : Hp} {s : Shared} {p : Addr} {xs : List V} (I : Inv X pins σ H s) (h : H p = some (.lst xs)) :
    ∃ (its : List Value) (n : Nat), Vals xs its ∧ s.heap.get? p = some { cls := .type "list", data := .seq its.toArray n } ∧ xs.length ≤ sizeLine := by
  obtain ⟨z, its, n, r, e⟩ := I.hok p _ h
  exact ⟨its, n, r, e, z⟩
/-! ### slices -/
theorem slice_bounds (lo hi : Option Int) (n : Nat) : (sliceBounds lo hi none n).1 = ((HT.sIx n 0 lo : Nat) : Int) ∧ (sliceBounds lo hi none n).2.1 = ((HT.sIx n n hi : Nat) : Int) ∧ (sliceBounds lo hi none n).2.2 = 1 := by
  refine ⟨?_, ?_, rfl⟩
  · cases lo with
    | none => simp [sliceBounds, HT.sIx]
    | some i =>
      simp only [sliceBounds, HT.sIx, Option.getD_none, show (1 : Int) > 0 by decide, if_true]
      by_cases h : i < 0
      · simp only [h, if_true] <;> omega
      · simp only [h, if_false] <;> omega
  · cases hi with
    | none => simp [sliceBounds, HT.sIx]
    | some i =>
      simp only [sliceBounds, HT.sIx, Option.getD_none, show (1 : Int) > 0 by decide, if_true]
      by_cases h : i < 0
      · simp only [h, if_true] <;> omega
      · simp only [h, if_false] <;> omega
theorem slicePick_cut (its : List Value) (lo hi : Option Int) : slicePick its.toArray lo hi none = ((its.drop (HT.sIx its.length 0 lo)).take (HT.sIx its.length its.length hi - HT.sIx its.length 0 lo)).toArray := by
  obtain ⟨h1, h2, h3⟩ := slice_bounds lo hi its.toArray.size
  unfold slicePick
  rw [h1, h2, h3]
  simp only [sliceRange_one, pick_run, List.size_toArray] <;> rfl
/-- xs[lo:hi] of a list: a new list -/
def rSlL (K : PySem.W.Frag) : V → Option Int → Option Int → Hp → VK → Prop := fun x lo hi H Q => ∃ a xs, x = .ref a ∧ SqL K H a xs ∧ ∀ p, H p = none → Q (.ref p) (upd H p (.lst (cutV xs lo hi)))
theorem sl_list : SlR X (rSlL X.K) := by
  intro pins s σ H x v vl vu lo hi sl Q I rx hs pl pu h
  obtain ⟨a, xs, rfl, hx, q⟩ := h
  cases rx
  obtain ⟨its, r, ht, hz⟩ := I.list hx
  have hlen := r.length
  refine ⟨"list", _, slot_list_getitem.lookup, ht.isList.typeIs, ?_⟩
  refine wpAny_getItem_list_slice ht.isList hs pl pu .none (by simp) ?_ (by rw [List.size_toArray] <;> omega)
  rw [slicePick_cut, ← hlen]
  refine ⟨.ref s.heap.objs.size, _, I.laid (t' := s.toks) (o := .lst (cutV xs lo hi)) (fun b ob q => Heap.get?_push_of_some _ q) (Nat.le_refl _) ?_, rfl, q _ (I.hok.fresh (Nat.le_refl _))⟩
  exact ⟨Nat.le_trans (cutV_length xs lo hi) hz, _, 0, (r.drop (HT.sIx xs.length 0 lo)).take (HT.sIx xs.length xs.length hi - HT.sIx xs.length 0 lo), Heap.get?_push_size _ rfl⟩
/-! ### in, not in: flat items -/
/-! ### len, list(x), tuple(x) of any list or tuple that is read -/
theorem call_len_seq : CallR X (.builtin "len") (fun xs H Q => ∃ p ys, xs = [.ref p] ∧ (SqL X.K H p ys ∨ SqT X.K H p ys) ∧ Q (.int ys.length) H) := by
  intro pins s σ H xs us Q I r h
  obtain ⟨p, ys, rfl, hq, q⟩ := h
  obtain ⟨u, rfl, rx⟩ := vals1 r
  cases rx
  have hn := line63
  rcases hq with hq | hq
  · obtain ⟨its, r', pl, hz⟩ := I.list hq
    have hlen := r'.length
    exact Calls.call_len_list pl.isList (by simp only [List.size_toArray] <;> omega) ⟨.int ys.length, H, I.tok _, ⟨s.toks + 1, by rw [List.size_toArray, hlen]⟩, q⟩
  · obtain ⟨its, r', pl, hz⟩ := I.tuple hq
    have hlen := r'.length
    exact len_tuple pl (by simp only [List.size_toArray] <;> omega) ⟨.int ys.length, H, I.tok _, ⟨s.toks + 1, by rw [List.size_toArray, hlen]⟩, q⟩
theorem CallR.or {f : Value} {r r' : List V → Hp → VK → Prop} (h : CallR X f r) (h' : CallR X f r') : CallR X f (fun xs H Q => r xs H Q ∨ r' xs H Q) := by
  intro pins s σ H xs us Q I rs q
  rcases q with q | q
  · exact h pins s σ H xs us Q I rs q
  · exact h' pins s σ H xs us Q I rs q
theorem call_list_of : CallR X (.type "list") (fun xs H Q => ∃ p ys, xs = [.ref p] ∧ (SqL X.K H p ys ∨ SqT X.K H p ys) ∧ ∀ l, H l = none → Q (.ref l) (upd H l (.lst ys))) := by
  intro pins s σ H xs us Q I r h
  obtain ⟨p, ys, rfl, hq, q⟩ := h
  obtain ⟨u, rfl, rx⟩ := vals1 r
  cases rx
  have fin : ∀ (its : List Value), Vals ys its → ys.length ≤ sizeLine → ∀ (h' : Heap) (c' : Nat), (∀ b o', s.heap.get? b = some o' → h'.get? b = some o') →
      h'.get? s.heap.objs.size = some { cls := .type "list", dict := none, data := .seq its.toArray c', slots := #[] } → EP X pins σ Q (.ref s.heap.objs.size) { s with heap := h' } := fun its r' hz h' c' kp e =>
    ⟨.ref s.heap.objs.size, _, I.laid (t' := s.toks) kp (Nat.le_refl _) (show ObjOk X.prog X.w _ h' _ (.lst ys) from ⟨hz, its, c', r', e⟩), rfl, q _ (I.hok.fresh (Nat.le_refl _))⟩
  rcases hq with hq | hq
  · obtain ⟨its, r', pl, hz⟩ := I.list hq
    have hlen := r'.length
    obtain ⟨o, ho, hc, n, hd⟩ := pl.isList
    exact call_list_seq p (.inl rfl) ho hc hd (fun h' c' kp e => fin its r' hz h' c' kp e) (by simp only [List.size_toArray] <;> omega)
  · obtain ⟨its, r', pl, hz⟩ := I.tuple hq
    have hlen := r'.length
    obtain ⟨o, ho, hc, n, hd⟩ := pl
    exact call_list_seq p (.inr rfl) ho hc hd (fun h' c' kp e => fin its r' hz h' c' kp e) (by simp only [List.size_toArray] <;> omega)
theorem call_tuple_of : CallR X (.type "tuple") (fun xs H Q => ∃ p ys, xs = [.ref p] ∧ ((SqL X.K H p ys ∧ ∀ l, H l = none → Q (.ref l) (upd H l (.tup ys))) ∨ (SqT X.K H p ys ∧ Q (.ref p) H))) := by
  intro pins s σ H xs us Q I r h
  obtain ⟨p, ys, rfl, h⟩ := h
  obtain ⟨u, rfl, rx⟩ := vals1 r
  cases rx
  rcases h with ⟨hq, q⟩ | ⟨hq, q⟩
  · obtain ⟨its, r', pl, hz⟩ := I.list hq
    have hlen := r'.length
    refine call_tuple_list pl.isList (fun h' kp => ?_) (by simp only [List.size_toArray] <;> omega)
    have I1 : Inv X pins σ H { s with heap := h' } := I.kept (t' := s.toks) kp
    have I2 : Inv X pins σ (upd H h'.objs.size (.tup ys)) { s with heap := h'.push { cls := .type "tuple", data := .seq its.toArray } } :=
      I1.laid (t' := s.toks) (fun b o e => Heap.get?_push_of_some _ e) (Nat.le_refl _) (show ObjOk X.prog X.w _ _ _ (.tup ys) from ⟨hz, its, r', IsTup.new _ _⟩)
    exact ⟨.ref h'.objs.size, _, I2, rfl, q _ (I1.hok.fresh (Nat.le_refl _))⟩
  · obtain ⟨its, r', pl, hz⟩ := I.tuple hq
    exact call_tuple_same pl ⟨.ref p, H, I, rfl, q⟩
/-! ### the call of a builtin's method: o.m(..) -/
/-- the value is of that builtin type -/
def tyV (K : PySem.W.Frag) (T : String) (x : V) (H : Hp) : Prop := match x with
  | .str _ => T = "str"
  | .int _ => T = "int"
  | .ref p => (T = "list" ∧ ∃ xs, SqL K H p xs) ∨ (T = "tuple" ∧ ∃ o, K.lookup p = some o ∧ o.cls = .type "tuple" ∧ o.dict = none) ∨
      (T = "dict" ∧ ((∃ kvs, H p = some (.dK kvs)) ∨ ∃ kvs, H p = some (.dT kvs))) ∨ (T = "set" ∧ ∃ S n, H p = some (.set S n))
  | _ => False
theorem tyV_is {pins : List (Addr × Obj)} {σ : St} {H : Hp} {s : Shared} {T : String} {x : V} {v : Value} (I : Inv X pins σ H s) (r : RelV x v) (ty : tyV X.K T x H) :
    s.TypeIs v T ∧ ∀ a, v = .ref a → ∃ ob, s.heap.get? a = some ob ∧ ob.dict = none := by
  cases x with
  | str z =>
    obtain ⟨t, rfl⟩ := r
    cases (show T = "str" from ty)
    exact ⟨typeIs_str s z t, fun _ e => nomatch e⟩
  | int i =>
    obtain ⟨t, rfl⟩ := r
    cases (show T = "int" from ty)
    exact ⟨typeIs_int s i t, fun _ e => nomatch e⟩
  | ref p =>
    cases r
    rcases ty with ⟨rfl, xs, hq⟩ | ⟨rfl, o, hk, hc, hd⟩ | ⟨rfl, hk⟩ | ⟨rfl, S, n, hk⟩
    · obtain ⟨its, _, pl, _⟩ := I.list hq
      refine ⟨pl.isList.typeIs, fun a e => ?_⟩
      cases e
      obtain ⟨o, n, e, c, hd, _⟩ := pl
      exact ⟨o, e, hd⟩
    · refine ⟨⟨o, I.kIn p o hk, hc⟩, fun a e => ?_⟩
      cases e
      exact ⟨o, I.kIn _ o hk, hd⟩
    · have z : ∃ o, s.heap.get? p = some o ∧ o.ExactDict := by
        rcases hk with ⟨kvs, hk⟩ | ⟨kvs, hk⟩
        · obtain ⟨_, _, _, _, o, _, _, e, ex, _⟩ := I.hok p _ hk
          exact ⟨o, e, ex⟩
        · obtain ⟨_, _, _, _, o, _, _, e, ex, _⟩ := I.hok p _ hk
          exact ⟨o, e, ex⟩
      obtain ⟨o, e, ex⟩ := z
      refine ⟨⟨o, e, ex.1⟩, fun a e2 => ?_⟩
      cases e2
      exact ⟨o, e, ex.2.1⟩
    · obtain ⟨o, _, _, _, e, ex, _⟩ := I.hok p _ hk
      refine ⟨⟨o, e, ex.1⟩, fun a e2 => ?_⟩
      cases e2
      exact ⟨o, e, ex.2.1⟩
  | _ => exact False.elim ty
def tBM0 (K : PySem.W.Frag) (T : String) (r : V → List V → Hp → VK → Prop) (to : TE) : TE := fun σ H Q => to σ H fun x H1 => tyV K T x H1 ∧ r x [] H1 Q
def tBM (K : PySem.W.Frag) (T : String) (r : V → List V → Hp → VK → Prop) (to : TE) (t : TA) : TE := fun σ H Q => to σ H fun x H1 => tyV K T x H1 ∧ t σ H1 fun xs H2 => r x xs H2 Q
variable {o e : Expr} {es : List Expr} {to : TE} {t : TA} {name : Str} {apos cpos : Pos} {T id : String} {r : V → List V → Hp → VK → Prop}
theorem pe_bm0 (pa : PlainAttrs T) (slot : Slot T name id) (hty : typeOf (.builtin id) = pure (.type "method_descriptor")) (hm : MtR X id r) (ho : PE X o to)
    (hbase : attributeBase o name X.env (eval o X.env) = eval o X.env := by rfl) (hline : (apos.endLine == cpos.line) = true := by rfl) : PE X (.Call (.Attribute o name apos) [] [] cpos) (tBM0 X.K T r to) := by
  intro pins s σ H Q I h
  refine wpAny_Call_method0_late hbase hline (thn (ho pins s σ H _ I h) fun v s1 ⟨x, H1, I1, r1, ty, q1⟩ => ?_)
  obtain ⟨h1, h2⟩ := tyV_is I1 r1 ty
  exact ⟨T, id, pa, slot, hty, h1, h2, Calls.callWith_builtin rfl (PySem.evalArgs_none (hm pins s1 σ H1 x [] v [] Q I1 r1 .nil q1))⟩
theorem pe_bm (pa : PlainAttrs T) (slot : Slot T name id) (hty : typeOf (.builtin id) = pure (.type "method_descriptor")) (hm : MtR X id r) (ho : PE X o to) (ha : PA X (e :: es) t)
    (hbase : attributeBase o name X.env (eval o X.env) = eval o X.env := by rfl)
    (hfew : ((backTo cpos (starEach (e :: es) X.env)).all (fun x => !x.1) && (backToKw cpos (keywordEach [] X.env)).all (fun x => x.1.isSome)
      && decide ((e :: es).length + ([] : List Keyword).length + (if ([] : List Keyword).isEmpty then 0 else 1) < 30)) = true := by rfl)
    (hline : (apos.endLine == cpos.line) = true := by rfl) (hs : starEach (e :: es) X.env = (false, eval e X.env) :: starEach es X.env := by rfl) (hplain : (backTo cpos (starEach es X.env)).any (·.1) = false := by rfl) :
    PE X (.Call (.Attribute o name apos) (e :: es) [] cpos) (tBM X.K T r to t) := by
  intro pins s σ H Q I h
  refine wpAny_Call_method_late hbase hfew hline rfl (thn (ho pins s σ H _ I h) fun v s1 ⟨x, H1, I1, r1, ty, q1⟩ => ?_)
  obtain ⟨h1, h2⟩ := tyV_is I1 r1 ty
  refine ⟨T, id, pa, slot, hty, h1, h2, ?_⟩
  have hA := ha cpos pins s1 σ H1 _ I1 q1
  rw [hs] at hA ⊢
  refine Calls.callWith_builtin (by show (false || (backTo cpos (starEach es X.env)).any (·.1)) = false; rw [hplain] <;> rfl) (Calls.evalArgs_plain ?_)
  exact thn hA fun us s2 ⟨vs, H2, I2, r2, q2⟩ => hm pins s2 σ H2 x vs v us Q I2 r1 r2 q2
/- xs.append(e), list.index on a module's tuple .. are MtR facts of 06m -/
end
end L2
namespace L2
open PySem PySem.Spec PyProof.Rows
def MtM (X : Cx) (id : String) (r : V → List V → Hp → VK → Prop) : Prop :=
  ∀ (pins : List (Addr × Obj)) (s : Shared) (σ : St) (H : Hp) (x : V) (xs : List V) (v : Value) (us : List Value) (Q : VK), Inv X pins σ H s → RelV x v → Vals xs us → r x xs H Q →
    wpAny (model X.prog X.w) X.A (call (.builtin id) (v :: us)) (EP X pins σ Q) X.xe s
/-! ### lists of values -/
theorem Vals.one : ∀ {x : V} {us : List Value}, Vals [x] us → ∃ u, us = [u] ∧ RelV x u
  | _, _, .cons r .nil => ⟨_, rfl, r⟩
theorem Vals.two : ∀ {x y : V} {us : List Value}, Vals [x, y] us → ∃ u v, us = [u, v] ∧ RelV x u ∧ RelV y v
  | _, _, _, .cons r (.cons q .nil) => ⟨_, _, rfl, r, q⟩
theorem Vals.zero : ∀ {us : List Value}, Vals [] us → us = []
  | _, .nil => rfl
theorem Vals.rep {xs : List V} {us : List Value} (h : Vals xs us) : ∀ k : Nat, Vals (List.replicate k xs).flatten (List.replicate k us).flatten
  | 0 => .nil
  | k + 1 => by
    rw [List.replicate_succ, List.replicate_succ, List.flatten_cons, List.flatten_cons]
    exact Vals.append h (Vals.rep h k)
section
variable {X : Cx} {pins : List (Addr × Obj)} {σ : St} {H : Hp} {s : Shared} {l b : Addr} {xs ys zs : List V}
/-! ### the two steps: a tracked list is rewritten, a new list is laid -/
theorem Inv.lset {its its' : List Value} {n : Nat} {f : Array Value → Array Value} {t' : Nat} (I : Inv X pins σ H s) (hH : H l = some (.lst xs))
    (e : s.heap.get? l = some { cls := .type "list", data := .seq its.toArray n }) (hf : f its.toArray = its'.toArray) (hv : Vals ys its') (hz : ys.length ≤ sizeLine) :
    Inv X pins σ (upd H l (.lst ys)) { s with heap := s.heap.update l (Obj.mapSeq f), toks := t' } := by
  have q := PySem.IsL.update e f
  rw [hf] at q
  refine I.write (x := l) (e := l) (by rw [hH]; exact trivial) (.inl rfl) (fun b' u hb hu => (Heap.get?_update_other s.heap (Obj.mapSeq f) (Ne.symm hb)).trans hu) ⟨_, q⟩ ?_
  exact ⟨hz, its', _, hv, q⟩
theorem Inv.lnew {its : List Value} {t' : Nat} (I : Inv X pins σ H s) (hv : Vals ys its) (hz : ys.length ≤ sizeLine) :
    Inv X pins σ (upd H s.heap.objs.size (.lst ys)) { s with heap := s.heap.push { cls := .type "list", data := .seq its.toArray }, toks := t' } :=
  I.laid (fun _ _ q => Heap.get?_push_of_some _ q) (Nat.le_refl _) ⟨hz, its, 0, hv, Heap.get?_push_size _ rfl⟩
theorem Inv.fresh (I : Inv X pins σ H s) : H s.heap.objs.size = none := I.hok.fresh (Nat.le_refl _)
theorem Inv.lstM (I : Inv X pins σ H s) (hH : H l = some (.lst xs)) : xs.length ≤ sizeLine ∧ ∃ (its : List Value) (n : Nat), Vals xs its ∧ xs.length = its.length ∧ s.heap.get? l = some { cls := .type "list", data := .seq its.toArray n } := by
  obtain ⟨z, its, n, r, e⟩ := I.hok l _ hH
  exact ⟨z, its, n, r, r.length, e⟩
end
section
variable {X : Cx}
/-! ### methods -/
def rAppend : V → List V → Hp → VK → Prop := fun x vs H Q => ∃ l xs y, x = .ref l ∧ vs = [y] ∧ H l = some (.lst xs) ∧ xs.length < sizeLine ∧ Q .non (upd H l (.lst (xs ++ [y])))
theorem mt_append : MtM X "list.append" rAppend := by
  intro pins s σ H x vs v us Q I rx rv h
  obtain ⟨l, xs, y, rfl, rfl, hH, hz, q⟩ := h
  cases rx
  obtain ⟨u, rfl, ru⟩ := rv.one
  obtain ⟨z, its, n, r, hl, e⟩ := I.lstM hH
  refine call_meets F.slot_list_append ⟨_, e, rfl⟩ F.entry_list_append (F.args_list_append_2 _ _) (PySem.list_append l its.toArray n u (by rw [List.size_toArray]; omega)) ⟨e, ?_⟩
  refine ⟨.non, _, I.lset (its' := its ++ [u]) hH e (by simp) (r.append (.cons ru .nil)) ?_, rfl, q⟩
  rw [List.length_append, List.length_singleton]
  omega
/-! ### list + list, list += list, list * int -/
/-! ### del xs[i] -/
end
/-! ### xs[a:b] = ys -/
section
variable {prog : Program} {w : World} {A : Around} {E : Value → Shared → Prop} {s : Shared}
end
section
variable {X : Cx}
end
end L2
namespace L2
open PySem PySem.Spec PyProof.Rows
/-! ### lists of pairs as tables -/
section
variable {κ : Type} [DecidableEq κ]
def valV (kvs : List (κ × V)) (k : κ) : Option V := (kvs.find? fun kv => decide (kv.1 = k)).map (·.2)
/-- in its place, or at the end -/
def putK (kvs : List (κ × V)) (k : κ) (v : V) : List (κ × V) :=
  if (kvs.any fun kv => decide (kv.1 = k)) = true then kvs.map (fun kv => if kv.1 = k then (kv.1, v) else kv) else kvs ++ [(k, v)]
def dropK (kvs : List (κ × V)) (k : κ) : List (κ × V) := kvs.filter fun kv => decide (kv.1 ≠ k)
theorem valV_pos {p : κ × V} {r : List (κ × V)} {k : κ} (e : p.1 = k) : valV (p :: r) k = some p.2 := by simp [valV, List.find?_cons, e]
theorem valV_neg {p : κ × V} {r : List (κ × V)} {k : κ} (e : ¬ p.1 = k) : valV (p :: r) k = valV r k := by simp [valV, List.find?_cons, e]
theorem valV_any (k : κ) : ∀ kvs : List (κ × V), (kvs.any fun kv => decide (kv.1 = k)) = (valV kvs k).isSome
  | [] => rfl
  | p :: r => by
    rw [List.any_cons]
    by_cases e : p.1 = k
    · simp only [valV_pos e, decide_eq_true e, Bool.true_or, Option.isSome_some]
    · rw [valV_neg e, decide_eq_false e, Bool.false_or]; exact valV_any k r
theorem length_putK (kvs : List (κ × V)) (k : κ) (v : V) : (putK kvs k v).length ≤ kvs.length + 1 := by
  unfold putK
  split
  · rw [List.length_map]; omega
  · rw [List.length_append, List.length_cons, List.length_nil]; omega
theorem RelO.isSome_eq {o : Option V} {u : Option Value} (r : RelO o u) : o.isSome = u.isSome := by
  cases o with
  | none => cases u with
    | none => rfl
    | some _ => exact (show False from r).elim
  | some _ => cases u with
    | none => exact (show False from r).elim
    | some _ => rfl
theorem RelO.getD {o : Option V} {u : Option Value} {d : V} {d' : Value} (r : RelO o u) (rd : RelV d d') : RelV (o.getD d) (u.getD d') := by
  cases o with
  | none => cases u with
    | none => exact rd
    | some _ => exact (show False from r).elim
  | some _ => cases u with
    | none => exact (show False from r).elim
    | some _ => exact r
/-- raw tables of the same keys -/
theorem KV.val {kvs : List (κ × V)} {vs : List (κ × Value)} (r : KV kvs vs) (k : κ) : RelO (valV kvs k) (valueAt vs k) := by
  unfold KV at r
  induction r with
  | nil => exact True.intro
  | @cons p q ps qs h t ih =>
    obtain ⟨h1, h2⟩ := h
    by_cases e : p.1 = k
    · have e' : q.1 = k := h1.symm.trans e
      have b : valueAt (q :: qs) k = some q.2 := by simp [valueAt, List.find?_cons, e']
      rw [valV_pos e, b]; exact h2
    · have e' : ¬ q.1 = k := fun z => e (h1.trans z)
      have b : valueAt (q :: qs) k = valueAt qs k := by simp [valueAt, List.find?_cons, e']
      rw [valV_neg e, b]; exact ih
theorem KV.any {kvs : List (κ × V)} {vs : List (κ × Value)} (r : KV kvs vs) (k : κ) : (kvs.any fun kv => decide (kv.1 = k)) = vs.any fun kv => decide (kv.1 = k) := by
  unfold KV at r
  induction r with
  | nil => rfl
  | cons h t ih => rw [List.any_cons, List.any_cons, ih, h.1]
theorem KV.repl {kvs : List (κ × V)} {vs : List (κ × Value)} (r : KV kvs vs) (k : κ) {y : V} {u : Value} (ry : RelV y u) :
    KV (kvs.map fun kv => if kv.1 = k then (kv.1, y) else kv) (vs.map fun kv => if kv.1 = k then (kv.1, u) else kv) := by
  unfold KV at r ⊢
  induction r with
  | nil => exact .nil
  | @cons p q ps qs h t ih =>
    rw [List.map_cons, List.map_cons]
    refine .cons ?_ ih
    obtain ⟨h1, h2⟩ := h
    by_cases e : p.1 = k
    · rw [if_pos e, if_pos (h1.symm.trans e)]; exact ⟨h1, ry⟩
    · rw [if_neg e, if_neg (fun z => e (h1.trans z))]; exact ⟨h1, h2⟩
theorem KV.put {kvs : List (κ × V)} {vs : List (κ × Value)} (r : KV kvs vs) (k : κ) {y : V} {u : Value} (ry : RelV y u) : KV (putK kvs k y) (stored vs k u) := by
  unfold putK stored
  rw [r.any k]
  by_cases e : (vs.any fun kv => decide (kv.1 = k)) = true
  · rw [if_pos e, if_pos e]; exact r.repl k ry
  · rw [if_neg e, if_neg e]; exact Paired.snoc r ⟨rfl, ry⟩
theorem KV.drop {kvs : List (κ × V)} {vs : List (κ × Value)} (r : KV kvs vs) (k : κ) : KV (dropK kvs k) (without vs k) := by
  unfold KV at r ⊢
  unfold dropK without
  induction r with
  | nil => exact .nil
  | @cons p q ps qs h t ih =>
    obtain ⟨h1, h2⟩ := h
    rw [List.filter_cons, List.filter_cons]
    by_cases e : p.1 = k
    · have a : ¬ decide (p.1 ≠ k) = true := by simp [e]
      have b : ¬ decide (q.1 ≠ k) = true := by simp [h1.symm.trans e]
      rw [if_neg a, if_neg b]; exact ih
    · have e' : ¬ q.1 = k := fun z => e (h1.trans z)
      have a : decide (p.1 ≠ k) = true := by simp [e]
      have b : decide (q.1 ≠ k) = true := by simp [e']
      rw [if_pos a, if_pos b]; exact .cons ⟨h1, h2⟩ ih
theorem KV.keys {kvs : List (κ × V)} {vs : List (κ × Value)} (r : KV kvs vs) : kvs.map (·.1) = vs.map (·.1) := by
  unfold KV at r
  induction r with
  | nil => rfl
  | cons h t ih => rw [List.map_cons, List.map_cons, ih, h.1]
theorem KV.length {kvs : List (κ × V)} {vs : List (κ × Value)} (r : KV kvs vs) : kvs.length = vs.length := Paired.length r
end
/-! ### a tracked dict, its keys ints and texts or tuples of these -/
theorem kV_is {P : Program} {w : World} {k : Key} {u : Value} (r : RelV (kV k) u) : (mixKind P w).is k u = true := by
  cases k with
  | inl i => obtain ⟨t, e⟩ := (show ∃ t, u = Value.int i t from r); subst e; exact mixKind_int P w i t
  | inr x => obtain ⟨t, e⟩ := (show ∃ t, u = Value.str x t from r); subst e; exact mixKind_str P w x t
theorem items_are {P : Program} {w : World} : ∀ {ks : List Key} {us : List Value}, Vals (ks.map kV) us → ItemsAre (mixKind P w) ks us
  | [], _, r => by rw [List.map_nil] at r; cases r; exact .nil
  | k :: ks, _, r => by
    rw [List.map_cons] at r
    cases r with
    | cons h t => exact .cons (kV_is h) (items_are t)
/-- raw entries of a dict with tuple keys -/
abbrev KT (H : Hp) : List (List Key × V) → List (List Key × Addr × Value) → Prop := Paired fun p q => p.1 = q.1 ∧ H q.2.1 = some (.tup (p.1.map kV)) ∧ RelV p.2 q.2.2
theorem KT.val {H : Hp} {kvs : List (List Key × V)} {xs : List (List Key × Addr × Value)} (r : KT H kvs xs) (k : List Key) : RelO (valV kvs k) ((atKey xs k).map (·.2)) := by
  induction r with
  | nil => exact True.intro
  | @cons p q ps qs h t ih =>
    obtain ⟨h1, _, h2⟩ := h
    by_cases e : p.1 = k
    · have e' : q.1 = k := h1.symm.trans e
      have b : atKey (q :: qs) k = some q.2 := by simp [atKey, List.find?_cons, e']
      rw [valV_pos e, b]; exact h2
    · have e' : ¬ q.1 = k := fun z => e (h1.trans z)
      have b : atKey (q :: qs) k = atKey qs k := by simp [atKey, List.find?_cons, e']
      rw [valV_neg e, b]; exact ih
theorem KT.repl {H : Hp} {kvs : List (List Key × V)} {xs : List (List Key × Addr × Value)} (r : KT H kvs xs) (k : List Key) {y : V} {u : Value} (ry : RelV y u) :
    KT H (kvs.map fun kv => if kv.1 = k then (kv.1, y) else kv) (xs.map (putAt k u)) := by
  induction r with
  | nil => exact .nil
  | @cons p q ps qs h t ih =>
    rw [List.map_cons, List.map_cons]
    refine .cons ?_ ih
    obtain ⟨h1, h2, h3⟩ := h
    unfold putAt
    by_cases e : p.1 = k
    · rw [if_pos e, if_pos (h1.symm.trans e)]; exact ⟨h1, h2, ry⟩
    · rw [if_neg e, if_neg (fun z => e (h1.trans z))]; exact ⟨h1, h2, h3⟩
theorem KT.put {H : Hp} {kvs : List (List Key × V)} {xs : List (List Key × Addr × Value)} (r : KT H kvs xs) (k : List Key) {b : Addr} {y : V} {u : Value} (hb : H b = some (.tup (k.map kV))) (ry : RelV y u) :
    KT H (putK kvs k y) (storedH xs k b u) := by
  have e : (kvs.any fun kv => decide (kv.1 = k)) = (atKey xs k).isSome := by
    rw [valV_any, (r.val k).isSome_eq, Option.isSome_map]
  unfold putK storedH
  rw [e]
  by_cases q : (atKey xs k).isSome = true
  · rw [if_pos q, if_pos q]; exact r.repl k ry
  · rw [if_neg q, if_neg q]; exact Paired.snoc r ⟨rfl, hb, ry⟩
theorem KT.keeps {H H' : Hp} {kvs : List (List Key × V)} {xs : List (List Key × Addr × Value)} (r : KT H kvs xs) (ht : ∀ b ys, H b = some (.tup ys) → H' b = some (.tup ys)) : KT H' kvs xs :=
  Paired.mapP r fun _ _ z => ⟨z.1, ht _ _ z.2.1, z.2.2⟩
section
variable {P : Program} {w : World} {H : Hp} {h : Heap} {a : Addr}
theorem rd_of {u : HO} (ok : HOk P w H h) (e : Rd H a u) : ObjOk P w H h a u := e.ok ok
theorem dk_rd {kvs : List (Key × V)} (ok : HOk P w H h) (e : Rd H a (.dK kvs)) : kvs.length ≤ sizeLine ∧ (a == sysModules) = false ∧ ∃ vs, KV kvs vs ∧ h.DictOf (mixKind P w) a vs :=
  show ObjOk P w H h a (.dK kvs) from rd_of ok e
theorem dk_of {kvs : List (Key × V)} (ok : HOk P w H h) (e : H a = some (.dK kvs)) : kvs.length ≤ sizeLine ∧ (a == sysModules) = false ∧ ∃ vs, KV kvs vs ∧ h.DictOf (mixKind P w) a vs := dk_rd ok (.inl e)
/-- a tracked tuple of ints and texts is a key -/
theorem key_of {ks : List Key} (ok : HOk P w H h) (e : H a = some (.tup (ks.map kV))) : (tupleKind (mixKind P w)).is h ks a := by
  obtain ⟨_, its, r, o, h1, h2, n, h3⟩ := (show ObjOk P w H h a (.tup (ks.map kV)) from ok a _ e)
  exact ⟨o, its.toArray, n, h1, h2, h3, by simpa using items_are r⟩
theorem dt_rd {kvs : List (List Key × V)} (ok : HOk P w H h) (e : Rd H a (.dT kvs)) : kvs.length ≤ sizeLine ∧ (a == sysModules) = false ∧
    ∃ xs, KT H kvs xs ∧ h.DictOfH (tupleKind (mixKind P w)) a xs := by
  obtain ⟨z, y, xs, r, o, es, ep, h1, h2, h3, h4, h5⟩ := (show ObjOk P w H h a (.dT kvs) from rd_of ok e)
  refine ⟨z, y, xs, r, o, es, ep, h1, h2, h3, h4, fun x hx => ?_, h5⟩
  have all : ∀ {l : List (List Key × V)} {m : List (List Key × Addr × Value)}, KT H l m → ∀ x ∈ m, (tupleKind (mixKind P w)).is h x.1 x.2.1 := by
    intro l m q
    induction q with
    | nil => intro x hx; exact nomatch hx
    | @cons p q ps qs hq t ih =>
      intro x hx
      rcases List.mem_cons.mp hx with e | hx
      · subst e
        exact key_of ok (by rw [← hq.1]; exact hq.2.1)
      · exact ih x hx
  exact all r x hx
theorem dt_of {kvs : List (List Key × V)} (ok : HOk P w H h) (e : H a = some (.dT kvs)) : kvs.length ≤ sizeLine ∧ (a == sysModules) = false ∧
    ∃ xs, KT H kvs xs ∧ h.DictOfH (tupleKind (mixKind P w)) a xs := dt_rd ok (.inl e)
end
/-- what the dict at a holds at the key y -/
def DGet (H : Hp) (a : Addr) (y : V) (r : Option V) : Prop :=
  (∃ kvs k, Rd H a (.dK kvs) ∧ y = kV k ∧ r = valV kvs k) ∨ ∃ kvs k b, Rd H a (.dT kvs) ∧ y = .ref b ∧ H b = some (.tup (k.map kV)) ∧ r = valV kvs k
/-- the heap behind a[y] = v -/
def DPut (H : Hp) (a : Addr) (y v : V) (H' : Hp) : Prop :=
  (∃ kvs k, H a = some (.dK kvs) ∧ y = kV k ∧ kvs.length < sizeLine ∧ H' = upd H a (.dK (putK kvs k v))) ∨
  ∃ kvs k b, H a = some (.dT kvs) ∧ y = .ref b ∧ H b = some (.tup (k.map kV)) ∧ kvs.length < sizeLine ∧ H' = upd H a (.dT (putK kvs k v))
theorem DGet.k {H : Hp} {a : Addr} {kvs : List (Key × V)} {k : Key} (e : H a = some (.dK kvs)) : DGet H a (kV k) (valV kvs k) := .inl ⟨kvs, k, .inl e, rfl, rfl⟩
theorem DGet.t {H : Hp} {a b : Addr} {kvs : List (List Key × V)} {k : List Key} (e : H a = some (.dT kvs)) (eb : H b = some (.tup (k.map kV))) : DGet H a (.ref b) (valV kvs k) := .inr ⟨kvs, k, b, .inl e, rfl, eb, rfl⟩
theorem DPut.k {H : Hp} {a : Addr} {kvs : List (Key × V)} {k : Key} {v : V} (e : H a = some (.dK kvs)) (hl : kvs.length < sizeLine) : DPut H a (kV k) v (upd H a (.dK (putK kvs k v))) := .inl ⟨kvs, k, e, rfl, hl, rfl⟩
theorem DPut.t {H : Hp} {a b : Addr} {kvs : List (List Key × V)} {k : List Key} {v : V} (e : H a = some (.dT kvs)) (eb : H b = some (.tup (k.map kV))) (hl : kvs.length < sizeLine) :
    DPut H a (.ref b) v (upd H a (.dT (putK kvs k v))) := .inr ⟨kvs, k, b, e, rfl, eb, hl, rfl⟩
section
variable {X : Cx} {pins : List (Addr × Obj)} {σ : St} {H : Hp} {s : Shared} {a : Addr} {y v : V} {u r : Value} {o : Option V} {A : Around} {E : Value → Shared → Prop}
theorem Inv.big (I : Inv X pins σ H s) : sysModules < s.heap.objs.size := by
  have h : mainGlobals < s.heap.objs.size := (I.mod.glob.keeps I.bk).lt
  exact Nat.lt_trans (by decide) h
/-- d[y], there -/
theorem d_getItem {Q : Value → Shared → Prop} (hu : A.units + 1 < cLine) (I : Inv X pins σ H s) (g : DGet H a y (some v)) (ry : RelV y u) (h : ∀ w' s', Inv X pins σ H s' → RelV v w' → Q w' s') :
    wpAny (model X.prog X.w) A (getItem (.ref a) u) Q E s := by
  rcases g with ⟨kvs, k, e, ey, l⟩ | ⟨kvs, k, b, e, ey, eb, l⟩
  · subst ey
    obtain ⟨z, hd, vs, rel, dd⟩ := dk_rd I.hok e
    obtain ⟨w', hw, rw'⟩ := RelO.some_of (v := v) (o := valueAt vs k) (by rw [l]; exact rel.val k)
    exact wpAny_getItem_of (kV_is ry) dd.mapOf hw (h w' _ (I.tok _) rw')
  · subst ey
    cases (show u = Value.ref b from ry)
    obtain ⟨z, hd, xs, rel, dd⟩ := dt_rd I.hok e
    obtain ⟨w', hw, rw'⟩ := RelO.some_of (v := v) (o := (atKey xs k).map (·.2)) (by rw [l]; exact rel.val k)
    obtain ⟨p, hp, hp2⟩ := Option.map_eq_some_iff.mp hw
    refine wpAny_getItem_heap (tupleKind_room_in1 hu) (key_of I.hok eb) dd hp ?_
    rw [hp2]
    exact h w' _ (I.tok _) rw'
theorem d_notIn {Q : Value → Shared → Prop} (hu : A.units + 1 < cLine) (I : Inv X pins σ H s) (g : DGet H a y o) (ry : RelV y u) (h : ∀ s', Inv X pins σ H s' → Q (.bool (!o.isSome)) s') :
    wpAny (model X.prog X.w) A (compareOp .NotIn u (.ref a)) Q E s := by
  rcases g with ⟨kvs, k, e, ey, l⟩ | ⟨kvs, k, b, e, ey, eb, l⟩
  · subst ey
    obtain ⟨z, hd, vs, rel, dd⟩ := dk_rd I.hok e
    refine wpAny_notIn_of (kV_is ry) hd dd.mapOf ?_
    rw [← (rel.val k).isSome_eq, ← l]
    exact h _ (I.tok _)
  · subst ey
    cases (show u = Value.ref b from ry)
    obtain ⟨z, hd, xs, rel, dd⟩ := dt_rd I.hok e
    refine wpAny_notIn_heap (tupleKind_room_in1 hu) (key_of I.hok eb) hd dd ?_
    have q := (rel.val k).isSome_eq
    rw [Option.isSome_map] at q
    rw [← q, ← l]
    exact h _ (I.tok _)
/-- a dict's object is replaced -/
theorem d_write {h' : Heap} {t' : Nat} {ob : HO} (I : Inv X pins σ H s) (mu : Mut (H a)) (hs : Heap.SameBut a s.heap h') (he : ∃ q, h'.get? a = some q) (new : ObjOk X.prog X.w (upd H a ob) h' a ob) :
    Inv X pins σ (upd H a ob) { s with heap := h', toks := t' } :=
  I.write (x := a) (e := a) mu (.inl rfl) (fun b q hb z => (hs.2 b hb).trans z) he new
theorem dk_new {P : Program} {w : World} {H' : Hp} {h' : Heap} {kvs : List (Key × V)} {vs : List (Key × Value)} (z : kvs.length ≤ sizeLine) (hd : (a == sysModules) = false) (rel : KV kvs vs) (dd : h'.DictOf (mixKind P w) a vs) :
    ObjOk P w H' h' a (.dK kvs) := ⟨z, hd, vs, rel, dd⟩
/-- d[y] = v -/
theorem d_setItem {H' : Hp} {Q : Unit → Shared → Prop} (hu : A.units + 1 < cLine) (I : Inv X pins σ H s) (g : DPut H a y v H') (ry : RelV y u) (rv : RelV v r) (h : ∀ s', Inv X pins σ H' s' → Q () s') :
    wpAny (model X.prog X.w) A (setItem (.ref a) u r) Q E s := by
  rcases g with ⟨kvs, k, e, ey, l, eH⟩ | ⟨kvs, k, b, e, ey, eb, l, eH⟩
  · subst ey eH
    obtain ⟨z, hd, vs, rel, dd⟩ := dk_of I.hok e
    have hz : vs.length ≤ sizeLine := by rw [← rel.length]; exact z
    have hl : (putK kvs k v).length ≤ sizeLine := by have := length_putK kvs k v; omega
    refine wpAny_setItem_pairs (hsz := hz) (kV_is ry) dd fun h' dd' hs => h _ ?_
    have he : ∃ q, h'.get? a = some q := let ⟨q, _, _, hq, _⟩ := dd'; ⟨q, hq⟩
    exact d_write I (by rw [e]; exact True.intro) hs he (dk_new hl hd (rel.put k rv) dd')
  · subst ey eH
    cases (show u = Value.ref b from ry)
    obtain ⟨z, hd, xs, rel, dd⟩ := dt_of I.hok e
    have hz : xs.length ≤ sizeLine := by rw [← Paired.length rel]; exact z
    have hl : (putK kvs k v).length ≤ sizeLine := by have := length_putK kvs k v; omega
    refine wpAny_setItem_heap (hsz := hz) (tupleKind_room_in1 hu) (key_of I.hok eb) dd fun h' dd' hs => h _ ?_
    obtain ⟨q, es, ep, hq, h2, h3, h4, _, h5⟩ := dd'
    refine d_write I (by rw [e]; exact True.intro) hs ⟨q, hq⟩ ⟨hl, hd, _, (rel.put k eb rv).keeps fun c ys ec => ?_, q, es, ep, hq, h2, h3, h4, h5⟩
    rw [upd_ne (ne_of ec e (fun z => nomatch z))]
    exact ec
end
section
variable {X : Cx} {pins : List (Addr × Obj)} {σ : St} {H : Hp} {s : Shared} {a : Addr} {kvs : List (Key × V)} {k : Key} {u : Value} {A : Around} {E : Value → Shared → Prop}
end
/-! ### readings and rules -/
theorem dict_typeIs {X : Cx} {pins : List (Addr × Obj)} {σ : St} {H : Hp} {s : Shared} {a : Addr} {y : V} {o : Option V} (I : Inv X pins σ H s) (g : DGet H a y o) : s.TypeIs (.ref a) "dict" := by
  rcases g with ⟨kvs, k, e, _, _⟩ | ⟨kvs, k, b, e, _, _, _⟩
  · obtain ⟨_, _, vs, _, dd⟩ := dk_rd I.hok e
    exact dd.typeIs
  · obtain ⟨_, _, xs, _, dd⟩ := dt_rd I.hok e
    exact dd.typeIs
/-- d[y] = v -/
def sDPut (td ty tv : TE) : TS := fun D σ H => tv σ H fun v H1 => td σ H1 fun x H2 => ty σ H2 fun y H3 => ∃ a H4, x = .ref a ∧ DPut H3 a y v H4 ∧ D.nx σ H4
section
variable {X : Cx} {o i e value : Expr} {pos pos' tpos : Pos} {td ty tv : TE}
theorem ps_dput (hu : X.A.units + 1 < cLine) (ho : PE X o td) (hi : PE X i ty) (hv : PE X value tv) (hs : swapsWith value (some (.Subscript o i pos')) pos.line X.env = pure false) :
    PS X (.Assign [.Subscript o i pos'] value pos) (sDPut td ty tv) := by
  intro pins s σ H D I h
  refine wpAny_Assign_Subscript (thn (hv pins s σ H _ I h) fun r s1 ⟨v, H1, I1, rv, q1⟩ => thn (ho pins s1 σ H1 _ I1 q1) fun u s2 ⟨x, H2, I2, rx, q2⟩ => thn (hi pins s2 σ H2 _ I2 q2) fun iv s3 ⟨y, H3, I3, ry, a, H4, ex, g, q3⟩ => ?_) hs
  subst ex
  obtain rfl : u = Value.ref a := rx
  exact d_setItem hu I3 g ry rv fun s4 I4 => ⟨σ, H4, I4, q3⟩
end
/-! ### displays -/
theorem dk_empty {P : Program} {w : World} {H : Hp} (h : Heap) (hb : sysModules < h.objs.size) : ObjOk P w H (h.push { cls := .type "dict", data := .dict #[] }) h.objs.size (.dK []) :=
  ⟨Nat.zero_le _, beq_eq_false_iff_ne.mpr (Ne.symm (Nat.ne_of_lt hb)), [], .nil, Heap.DictOf.new h⟩
theorem dt_empty {P : Program} {w : World} {H : Hp} (h : Heap) (hb : sysModules < h.objs.size) : ObjOk P w H (h.push { cls := .type "dict", data := .dict #[] }) h.objs.size (.dT []) :=
  ⟨Nat.zero_le _, beq_eq_false_iff_ne.mpr (Ne.symm (Nat.ne_of_lt hb)), [], .nil, _, #[], 0, Heap.get?_push_size _ rfl, ⟨rfl, rfl, rfl⟩, rfl, rfl, List.nodup_nil⟩
/-- {}, to be a dict of the kind that is wanted -/
def tDNewK : TE := fun _ H Q => ∀ p, H p = none → Q (.ref p) (upd H p (.dK []))
def tDNewT : TE := fun _ H Q => ∀ p, H p = none → Q (.ref p) (upd H p (.dT []))
section
variable {X : Cx} {pos : Pos}
theorem pe_dnewK : PE X (.Dict [] [] pos) tDNewK := fun pins s σ H Q I h =>
  wpAny_Dict_empty ⟨.ref s.heap.objs.size, _, I.laid (a := s.heap.objs.size) (o := .dK []) (t' := s.toks) (fun _ _ q => Heap.get?_push_of_some _ q) (Nat.le_refl _) (dk_empty s.heap I.big), rfl, h _ (I.hok.fresh (Nat.le_refl _))⟩
theorem pe_dnewT : PE X (.Dict [] [] pos) tDNewT := fun pins s σ H Q I h =>
  wpAny_Dict_empty ⟨.ref s.heap.objs.size, _, I.laid (a := s.heap.objs.size) (o := .dT []) (t' := s.toks) (fun _ _ q => Heap.get?_push_of_some _ q) (Nat.le_refl _) (dt_empty s.heap I.big), rfl, h _ (I.hok.fresh (Nat.le_refl _))⟩
end
def mergeK (kvs more : List (Key × V)) : List (Key × V) := more.foldl (fun acc kv => putK acc kv.1 kv.2) kvs
theorem KV.merge : ∀ {more : List (Key × V)} {rs : List (Key × Value)} {kvs : List (Key × V)} {vs : List (Key × Value)}, KV more rs → KV kvs vs → KV (mergeK kvs more) (merged vs rs) := by
  intro more rs kvs vs r
  unfold KV at r
  induction r generalizing kvs vs with
  | nil => intro q; exact q
  | @cons p q ps qs h t ih =>
    intro r0
    have e : KV (putK kvs p.1 p.2) (stored vs q.1 q.2) := by
      have := r0.put p.1 h.2
      rw [← h.1]; exact this
    exact ih e
/-! ### methods -/
section
variable {X : Cx} {pins : List (Addr × Obj)} {σ : St} {H : Hp} {s : Shared} {a : Addr} {y d : V} {u r : Value} {o : Option V} {A : Around} {E : Value → Shared → Prop}
end
section
variable {X : Cx} {o e f : Expr} {apos cpos : Pos} {td ty tx : TE}
end
/-! ### dict(d): a copy -/
section
variable {X : Cx} {pins : List (Addr × Obj)} {σ : St} {H : Hp} {s : Shared} {a : Addr} {kvs : List (Key × V)} {A : Around} {E : Value → Shared → Prop}
end
section
variable {X : Cx} {pins : List (Addr × Obj)} {σ : St} {H : Hp} {s : Shared} {a : Addr} {y : V} {u : Value} {A : Around} {E : Value → Shared → Prop}
end
end L2
namespace Att
open PySem PySem.W PySem.Calls PyProof.Rows
/-! ### the script -/
theorem ints_of_wellAll {P : Params} {h : Heap} : ∀ (ns : List Int) (vs : List Value), WellAll P h vs (ns.map WData.int) → IntsAre vs ns := by
  intro ns
  induction ns with
  | nil =>
    intro vs w
    rw [List.map_nil] at w
    cases w
    exact .nil
  | cons n ns ih =>
    intro vs w
    rw [List.map_cons] at w
    cases w with
    | cons a b =>
      cases a
      exact .cons _ _ (ih _ b)
theorem script_of {l : OpenLaw} {n : Nat} (hn : l.most = some n) {P : Params} {h : Heap} {args : List WData} {vals : List Value}
    (hpre : l.row.toRowW.claim.pre args = true) (hwl : WellAll P h vals args) :
    ∃ a vs ns, vals = [Value.ref a] ∧ args = [WData.list (ns.map WData.int)] ∧ h.get? a = some { cls := .type "list", data := .seq vs.toArray } ∧ IntsAre vs ns ∧ ns.length ≤ n := by
  have hsh : WShape.hasAll [] args [.list .int] = true := (pre_splitW hpre).1
  have hc : l.pre.holds [] { args := args } = true := (pre_splitW hpre).2
  obtain ⟨d, r, rfl, h1, h2⟩ := hasAllW_cons hsh
  obtain rfl := hasAllW_nil h2
  obtain ⟨xs, rfl, h3⟩ := hasW_list h1
  obtain ⟨ns, rfl⟩ := items_int h3
  have hlen : ns.length ≤ n := by
    unfold OpenLaw.pre at hc
    have h4 : (WTm.not (.lt (.lit (.int (n : Int))) (.len (.arg 0)))).holds [] { args := [.list (ns.map .int)] } = true := by
      have h4 := (holds_andW hc).1
      rw [hn] at h4
      exact h4
    have h5 := condW_of h4 (w_not (w_lt w_lit (w_len_list (w_arg rfl))))
    rw [List.length_map] at h5
    refine Nat.le_of_not_lt fun q => ?_
    have q' : (n : Int) < ((ns.length : Nat) : Int) := by omega
    first
      | (rw [decide_eq_true q'] at h5; exact absurd h5 (by decide))
      | (simp at h5; omega)
  cases hwl with
  | cons w1 w2 =>
    cases w2
    cases w1 with
    | list ho hall => exact ⟨_, _, ns, rfl, rfl, ho, ints_of_wellAll ns _ hall, hlen⟩
theorem post_true (l : OpenLaw) (args : List WData) : l.row.toRowW.claim.post args (.bool true) args = true :=
  postW_of (r := l.row.toRowW) (X := (true == true))
    (show WShape.has [] (.bool true) .bool = true by first | rfl | decide | simp [WShape.has, WShape.arms, WShape.armsAll])
    (show (WTm.eq .res (.lit (.bool true))).value [] { args := args, res := some (.bool true), after := args } = some (.bool (true == true)) from w_eq_bool (w_res rfl) w_lit) rfl
/-! ### the attachment: holds_open's last premise (the goal 'hc' behind k_head) from a wpAny of the law's body -/
/-- the same from a codeAny of the CALL (for a layer whose function contracts speak of calls) -/
theorem attach_call {l : OpenLaw} {n : Nat} {q : Program} {loose : List Str} {XP : (Str → Option Value) → Heap → Prop} {YP : World → Heap → Prop} {d : DefRec}
    (hn : l.most = some n) (hdf : d.params.defaults = [])
    (call : ∀ (w : World) (s₀ s₁ : Shared) (mg mb : Str → Option Value) (fa : Addr) (o : Obj) (pm cd doc : Value) (a : Addr) (vs : List Value) (ns : List Int),
      Ground q loose [] XP w s₀ mg mb s₁.heap → YP w s₁.heap →
      s₁.heap.get? fa = some o → o.data = .func (docDef d.name d.params d.body d.scope pm cd doc) → s₁.heap.CodeRec cd d.name → mg d.name = some (.ref fa) →
      s₁.heap.get? a = some { cls := .type "list", data := .seq vs.toArray } → IntsAre vs ns → ns.length ≤ n → s₁.gens = #[] →
      codeAny (model l.prog w) callerA (.call (.ref fa) ⟨[.ref a], []⟩) (fun r s' => r = .ok (.ret (.bool true)) ∧ OldK s₁.heap s'.heap ∧ s'.os = s₁.os ∧ AllBare s'.gens) s₁) :
    WalkO q loose XP YP l.row.toRowW d [] (fun f vs => PySem.call f vs) := by
  intro w s₀ s₁ mg mb G Y fa o pm cd doc dV kV ho hd hcd hD hmg hg args vals as hpre hlay hrd hwl hlo
  obtain rfl : dV = .none := Dflts.none hD hdf
  obtain rfl : kV = .none := Dflts.noKw hD
  obtain ⟨a, vs, ns, rfl, rfl, hobj, hints, hlen⟩ := script_of hn hpre hwl
  refine enter_call (codeAny_mono (call w s₀ s₁ mg mb fa o pm cd doc a vs ns G Y ho (fd_plain hd) hcd hmg hobj hints hlen hg) fun r s' hq => ?_)
  obtain ⟨rfl, h2, h3, h4⟩ := hq
  exact ⟨.inl ⟨.bool true, .bool true, [], rfl, fun _ => rfl, .bool true, post_true l _, fun _ => ⟨List.Pairwise.nil, fun _ hm => (nomatch hm)⟩⟩, h2, h3, h4⟩
/-! ### rules over ANY heap (no ledger) from facts about the written part K: the library's own take a ledger (News) for what they write -/
section
variable {prog : Program} {w : World} {A : Around} {E : Value → Shared → Prop} {s : Shared} {K : Frag}
/-! the whole heap as the ledger: makes every rule that writes through a ledger a rule over any heap -/
def ledger (h : Heap) (L d : Addr) : List (Addr × Obj) := (List.range h.objs.size).filterMap fun a => if a = L ∨ a = d then none else (h.get? a).map fun o => (a, o)
end
end Att
namespace L2
open PySem PySem.Spec PyProof.Rows
theorem vals_ints : ∀ {vs : List Value} {ns : List Int}, IntsAre vs ns → Vals (ns.map V.int) vs
  | _, _, .nil => .nil
  | _, _, .cons n t h => .cons ⟨t, rfl⟩ (vals_ints h)
/-- nothing is tracked but the script, known to the object (or it is an object of the module) -/
def Only (H : Hp) : Prop := ∀ b, H b = none ∨ ∃ o xs, H b = some (.frz o (.lst xs))
/-- THE HEAD: the law's promise, at the heap behind the top. F, the promise of the law's def, may use that base is part of the heap (so K.In base, base.Ns mainGlobals mg stand in Mod) -/
theorem law_call {P : Program} {w : World} {K : PySem.W.Frag} {mg mb : Str → Option Value} {CX : CXT} {k : Nat} {fa a : Addr} {fd : FuncData} {x : Str} {sp : Sp} {s₁ : Shared} {vs : List Value} {ns : List Int}
    (KX : K.In s₁.heap) (hns : s₁.heap.Ns mainGlobals mg) (hb : s₁.heap.Ns builtinsNs mb) (hbb : ∀ x : Str, x ≠ "__name__" → mb x = bootBuiltins x) (hlim : s₁.heap.NoLimit) (hg : s₁.gens = #[])
    (ha : s₁.heap.get? a = some { cls := .type "list", data := .seq vs.toArray }) (hi : IntsAre vs ns) (hl : ns.length ≤ sizeLine) (hr : Room k callerA)
    (F : ∀ base : Heap, K.In base → base.Ns mainGlobals mg → FnOk P w K mg base CX k fa fd [x] sp) (hbind : ∀ (s : Shared) (u : Value), BindsTo s fd ⟨[u], []⟩ [(x, u)])
    (hsp : ∀ H : Hp, Only H → SqL K H a (ns.map V.int) → sp [.ref a] H (fun v _ => v = .bl true) fun _ _ _ => False)
    (hCX : ∀ H e s', CX [] H s₁ (fun _ _ _ => False) e s' → False) :
    codeAny (model P w) callerA (.call (.ref fa) ⟨[.ref a], []⟩) (fun r s' => r = .ok (.ret (.bool true)) ∧ OldK s₁.heap s'.heap ∧ s'.os = s₁.os ∧ AllBare s'.gens) s₁ := by
  have rv := vals_ints hi
  have lenV := hi.length
  -- from an abstract heap in which nothing but the script may be tracked
  have core : ∀ H : Hp, Only H → SqL K H a (ns.map V.int) → HOk P w H s₁.heap → (∀ b, H b ≠ none → b = a) → (H a ≠ none → K.lookup a = none) →
      codeAny (model P w) callerA (.call (.ref fa) ⟨[.ref a], []⟩) (fun r s' => r = .ok (.ret (.bool true)) ∧ OldK s₁.heap s'.heap ∧ s'.os = s₁.os ∧ AllBare s'.gens) s₁ := by
    intro H hO hS hok hA hK
    have base_of : ∀ {b : Addr} {o : Obj}, s₁.heap.get? b = some o → H b = none → (hidT s₁.heap H).get? b = some o := fun e n => hidT_get e n
    have noA : ∀ {b : Addr} {o : Obj} {es : Array DictEntry} {ep : Nat}, s₁.heap.get? b = some o → o.data = .dict es ep → H b = none := fun {b o es ep} e d => by
      cases q : H b with
      | none => rfl
      | some u =>
        have e' : b = a := hA b (by rw [q]; simp)
        subst e'
        rw [ha] at e; cases e
        have d' : Data.seq vs.toArray _ = Data.dict es ep := d
        cases d'
    have nsK : ∀ {b : Addr} {m : Str → Option Value}, s₁.heap.Ns b m → (hidT s₁.heap H).Ns b m := fun {b m} ⟨o, es, ep, e, d, r⟩ => ⟨o, es, ep, base_of e (noA e d), d, r⟩
    have hKb : K.In (hidT s₁.heap H) := fun b o e => base_of (KX b o e) (by
      cases q : H b with
      | none => rfl
      | some u =>
        have e' : b = a := hA b (by rw [q]; simp)
        subst e'
        rw [hK (by rw [q]; simp)] at e; cases e)
    have hM : Mod K mg (hidT s₁.heap H) := ⟨hKb, nsK hns, ⟨mb, nsK hb, hbb⟩, let ⟨mc, h1, h2⟩ := hlim; ⟨mc, nsK h1, h2⟩⟩
    have e0 : Env0 P w K mg (hidT s₁.heap H) callerA [] s₁ H := ⟨rfl, hM, fun b o e => of_hidT e, Nat.le_of_eq (hidT_size _ _), trivial, fun b hb => absurd (show b ∈ ([] : List Addr) from hb) (by simp), hok, .of_eq hg⟩
    refine codeAny_mono ((F _ hKb (nsK hns)).run callerA [] s₁ H ⟨[.ref a], []⟩ [.ref a] [.ref a] _ _ hr e0 (hbind s₁ (.ref a)) (.cons rfl .nil) (hsp H hO hS)) fun r s' h => ?_
    cases r with
    | error e => exact (hCX H e s' h).elim
    | ok fl =>
      cases fl with
      | next => exact False.elim h
      | brk => exact False.elim h
      | cont => exact False.elim h
      | ret u =>
        obtain ⟨v, H', os, bare, un, hok', r', q⟩ := h
        have q' : v = .bl true := q
        subst q'
        obtain rfl : u = Value.bool true := r'
        refine ⟨rfl, OldK.of_keep fun b o e => ?_, os, bare⟩
        cases q : H b with
        | none => exact un.keep b o e q (by intro z; exact absurd (show b ∈ ([] : List Addr) from z) (by simp)) (by simp)
        | some u =>
          rcases hO b with z | ⟨ob, xs, z⟩
          · rw [q] at z; cases z
          · have z2 := un.frzs b ob _ z
            obtain ⟨e1, _⟩ := hok b _ z
            obtain ⟨e2, _⟩ := hok' b _ z2
            rw [e] at e1; cases e1
            exact e2
  cases hk : K.lookup a with
  | some o =>
    -- the script is one of the module's own objects
    have e := KX a o hk
    rw [ha] at e
    cases e
    refine core (fun _ => none) (fun _ => .inl rfl) (.inr ⟨_, vs.toArray, _, hk, rfl, rfl, rfl, by rw [List.size_toArray, lenV]; exact hl, by simpa using rv⟩) (fun b u z => by have z' : (none : Option HO) = some u := z; cases z') (fun b z => absurd rfl z) fun z => absurd rfl z
  | none =>
    refine core (fun b => if b = a then some (.frz { cls := .type "list", data := .seq vs.toArray } (.lst (ns.map V.int))) else none) (fun b => ?_) (.inl (.inr ⟨{ cls := .type "list", data := .seq vs.toArray }, if_pos rfl⟩)) (fun b u z => ?_) (fun b z => ?_) fun _ => hk
    · by_cases hb : b = a
      · exact .inr ⟨_, _, if_pos hb⟩
      · exact .inl (if_neg hb)
    · by_cases hb : b = a
      · have z' := (if_pos hb).symm.trans z
        cases z'
        subst hb
        exact ⟨ha, by rw [List.length_map]; exact hl, vs, _, rv, ha⟩
      · have z' := (if_neg hb).symm.trans z
        cases z'
    · by_cases hb : b = a
      · exact hb
      · exact absurd (if_neg hb) z
end L2
namespace L2
open PySem PySem.Spec PyProof.Rows
abbrev KOf {K : PySem.W.Frag} {h : Heap} (_ : K.In h) : PySem.W.Frag := K
/-- the goal that k_head leaves (case hc), from the law's promise. F gives the function object fd (K's own) once, then the promise over every base -/
theorem walk_of {l : PySem.W.OpenLaw} {n k : Nat} {q : Program} {loose : List Str} {XP : (Str → Option Value) → Heap → Prop} {YP : World → Heap → Prop} {d : DefRec} {K : Params → PySem.W.Frag} {CX : World → CXT} {sp : World → Sp} {x : Str}
    (hn : l.most = some n) (hn2 : n ≤ sizeLine) (hdf : d.params.defaults = []) (hr : Room k callerA)
    (hY : ∀ (w : World) (h : Heap), YP w h → (K w.params).In h)
    (F : ∀ (w : World) (mg : Str → Option Value) (fa : Addr) (h : Heap), (K w.params).In h → h.Ns mainGlobals mg → mg d.name = some (.ref fa) →
      ∃ fd : FuncData, (∀ (s : Shared) (u : Value), BindsTo s fd ⟨[u], []⟩ [(x, u)]) ∧
        ∀ base : Heap, (K w.params).In base → base.Ns mainGlobals mg → FnOk l.prog w (K w.params) mg base (CX w) k fa fd [x] (sp w))
    (hsp : ∀ (w : World) (H : Hp) (a : Addr) (ns : List Int), ns.length ≤ n → Only H → SqL (K w.params) H a (ns.map V.int) → sp w [.ref a] H (fun v _ => v = .bl true) fun _ _ _ => False)
    (hCX : ∀ (w : World) (H : Hp) (s : Shared) (e : Value) (s' : Shared), CX w [] H s (fun _ _ _ => False) e s' → False) :
    PySem.W.WalkO q loose XP YP l.row.toRowW d [] (fun f vs => PySem.call f vs) := by
  refine Att.attach_call hn hdf fun w s₀ s₁ mg mb fa o pm cd doc a vs ns G Y ho hd hcd hmg hobj hints hlen hg => ?_
  have KX := hY w _ Y
  obtain ⟨fd, hb, hF⟩ := F w mg fa _ KX G.T.g hmg
  exact law_call KX G.T.g G.T.b G.T.builtins G.T.nolimit hg hobj hints (Nat.le_trans hlen hn2) hr hF hb (fun H hO hS => hsp w H a ns hlen hO hS) fun H e s' => hCX w H s₁ e s'
/-- the same where the promise hangs on the written part alone: (sp := My.sp_law), no hole under a binder -/
theorem walk_ofK {l : PySem.W.OpenLaw} {n k : Nat} {q : Program} {loose : List Str} {XP : (Str → Option Value) → Heap → Prop} {YP : World → Heap → Prop} {d : DefRec} {K : Params → PySem.W.Frag} {CX : CXT} {sp : PySem.W.Frag → Sp} {x : Str}
    (hn : l.most = some n) (hn2 : n ≤ sizeLine) (hdf : d.params.defaults = []) (hr : Room k callerA)
    (hY : ∀ (w : World) (h : Heap), YP w h → (K w.params).In h)
    (F : ∀ (w : World) (mg : Str → Option Value) (fa : Addr) (h : Heap), (K w.params).In h → h.Ns mainGlobals mg → mg d.name = some (.ref fa) →
      ∃ fd : FuncData, (∀ (s : Shared) (u : Value), BindsTo s fd ⟨[u], []⟩ [(x, u)]) ∧
        ∀ base : Heap, (K w.params).In base → base.Ns mainGlobals mg → FnOk l.prog w (K w.params) mg base CX k fa fd [x] (sp (K w.params)))
    (hsp : ∀ (K : PySem.W.Frag) (H : Hp) (a : Addr) (ns : List Int), ns.length ≤ n → Only H → SqL K H a (ns.map V.int) → sp K [.ref a] H (fun v _ => v = .bl true) fun _ _ _ => False)
    (hCX : ∀ (H : Hp) (s : Shared) (e : Value) (s' : Shared), CX [] H s (fun _ _ _ => False) e s' → False) :
    PySem.W.WalkO q loose XP YP l.row.toRowW d [] (fun f vs => PySem.call f vs) :=
  walk_of (K := K) (CX := fun _ => CX) (sp := fun w => sp (K w.params)) hn hn2 hdf hr hY F (fun w H a ns h1 h2 h3 => hsp (K w.params) H a ns h1 h2 h3) fun _ H s e s' => hCX H s e s'
end L2
/- THE LAST THEOREM (shape; LID, My.* are yours):
   My.Adr: a structure of the addresses that your layer names (classes, functions); My.Txt K t: a structure (Prop) of the equations over K;
   My.txt_mk : {K} {implicit addresses ..} (e1 : nsIn K mainGlobals "law" = some (some (.ref f))) (e2 : K.lookup f = some ⟨oc, od, .func (fnOf "law" "law" params body scope dV kV doc pm an cdv ct), sl⟩) (e3 : codeIn K cdv "law" = true) .. : ∃ t, My.Txt K t
set_option maxRecDepth 100000 in
set_option maxHeartbeats 0 in
theorem PySem.Challenge.cw_LID_holds : PySem.Challenge.rw_LID.Holds := by
  w_on; o_law; k_head; (case hw => w_witness2)
  k_fill
  refine L2.walk_of (l := PySem.Challenge.rw_LID) (n := 63) (k := 40) (x := "script") (CX := fun w => ..) (sp := fun _ => My.sp_law) rfl (by decide) rfl ⟨rfl, by decide, by decide⟩ (fun w h Y => PySem.W.kIn_of Y) ?F ?S ?C
  case F =>
    intro w mg fa h KX G hmg
    have T : ∃ t, My.Txt (L2.KOf KX) t := by
      dsimp only [L2.KOf]                          -- K must stand as «<heap const> w.params» for k_is
      refine' My.txt_mk ?e1 ?e2 ?e3 ..
      (case e1 => PySem.W.k_is)                    -- in the order: a name -> its address -> its object -> its parts
      (case e2 => PySem.W.k_is)
      ..
    obtain ⟨t, T⟩ := T
    have e0 := hmg.symm.trans (PySem.W.mg_of KX G T.law)
    cases e0                                       -- fa is the law's own address
    exact ⟨_, fun s u => .of_eq rfl, fun base kb nb => My.law_fn T kb nb⟩     -- if «.of_eq rfl» comes too early: refine' ⟨_, ?b, fun base kb nb => My.law_fn T kb nb⟩; exact fun s u => .of_eq rfl
  case S => exact fun w H a ns hl hO hS => ..
  case C => exact ..
(the tactic k_is has no namespace: write k_is) -/
/-! SHORT WORDS over the layer: a def of the text, its body, what a loop and a test want. -/
namespace L2
open PySem PySem.Spec PyProof.Rows
/-! ### the text by places -/
def defArgs (s : Stmt) : Arguments := match s with
  | .FunctionDef _ a _ _ _ _ _ _ _ _ => a
  | _ => { posonlyargs := [], args := [], vararg := none, kwonlyargs := [], kw_defaults := [], kwarg := none, defaults := [] }
def defBody (s : Stmt) : List Stmt := match s with
  | .FunctionDef _ _ b _ _ _ _ _ _ _ => b
  | _ => []
def defScope (s : Stmt) : Scope := match s with
  | .FunctionDef _ _ _ _ _ _ sc _ _ _ => sc
  | _ => { kind := .function, names := [], isGenerator := false, isCoroutine := false }
/-! ### no exception leaves a def -/
abbrev CX0 : CXT := fun _ _ _ _ _ _ => False
abbrev E0 : XK := fun _ _ _ => False
theorem pass0 {X : Cx} : Passes CX0 X E0 := fun _ _ _ _ _ _ _ h => h.elim
/-! ### a def (or method) of the text as it stands behind the top -/
structure Fun (K : PySem.W.Frag) (x qual : Str) (st : Stmt) (f : Addr) (fd : FuncData) : Prop where
  ex : ∃ (oc : Value) (od : Option Addr) (kV doc pm : Value) (an : Option Addr) (cdv ct : Value) (osl : Array (Option Value)),
    fd = PySem.W.fnOf x qual (defArgs st) (defBody st) (defScope st) .none kV doc pm an cdv ct ∧ K.lookup f = some ⟨oc, od, .func fd, osl⟩ ∧ PySem.W.codeIn K cdv qual = true
  kp : PySem.W.keepIn K (.ref f) = true
section
variable {P : Program} {w : World} {K : PySem.W.Frag} {mg : Str → Option Value} {base : Heap}
/-- THE RULE for a def: its body as a term of rules, and the reading of that term -/
theorem Fun.ok {x qual : Str} {st : Stmt} {f : Addr} {fd : FuncData} {N ps : List Str} {k : Nat} {sp : Sp} (F : Fun K x qual st f fd) (S : FnScope N ps (defScope st)) (len : ∀ vs H Q E, sp vs H Q E → vs.length = ps.length)
    (hbody : ∀ (cdv : Value) (A : Around) (outer : List Env) (s : Shared) (H : Hp) (vs : List V) (Q : VK) (E : XK), Room k (A.deeper (envOfC qual (defScope st) s.heap.objs.size f cdv)) → sp vs H Q E →
      ∃ t, PSs (cxOf CX0 P w K mg base N qual (defScope st) f cdv A outer s H E).nox (defBody st) t ∧ t { nx := fun _ H' => Q .non H', rt := Q } (start N vs) H) : FnOk P w K mg base CX0 (k + 1) f fd ps sp := by
  obtain ⟨oc, od, kV, doc, pm, an, cdv, ct, osl, rfl, lk, hcd⟩ := F.ex
  refine fn_of lk hcd S len fun A outer s H vs Q E hr hsp => ?_
  obtain ⟨t, h, q⟩ := hbody cdv A outer s H vs Q E hr hsp
  exact ⟨t, h.nox, q⟩
/-- how its arguments bind (no defaults): h is «fun _ _ _ _ _ _ us hl => match us, hl with | [_, _], _ => rfl», one _ a parameter -/
theorem Fun.binds {x qual : Str} {st : Stmt} {f : Addr} {fd : FuncData} {ps : List Str} (F : Fun K x qual st f fd)
    (h : ∀ (kV doc pm : Value) (an : Option Addr) (cdv ct : Value) (us : List Value), us.length = ps.length → bindArgs (PySem.W.fnOf x qual (defArgs st) (defBody st) (defScope st) .none kV doc pm an cdv ct) ⟨us, []⟩ = pure (ps.zip us)) : Binds K fd ps [] := by
  obtain ⟨oc, od, kV, doc, pm, an, cdv, ct, osl, rfl, lk, hcd⟩ := F.ex
  exact .all (h kV doc pm an cdv ct)
theorem fun_mk {x qual : Str} {st : Stmt} {f : Addr} {oc : Value} {od an : Option Addr} {osl : Array (Option Value)} {kV doc pm cdv ct : Value} (l : K.lookup f = some ⟨oc, od, .func (PySem.W.fnOf x qual (defArgs st) (defBody st) (defScope st) .none kV doc pm an cdv ct), osl⟩)
    (c : PySem.W.codeIn K cdv qual = true) (k : PySem.W.keepIn K (.ref f) = true) : Fun K x qual st f (PySem.W.fnOf x qual (defArgs st) (defBody st) (defScope st) .none kV doc pm an cdv ct) := ⟨⟨oc, od, kV, doc, pm, an, cdv, ct, osl, rfl, l, c⟩, k⟩
end
theorem small1000 {n : Nat} (h : n ≤ 1000) : n < sizeLine := Nat.lt_of_le_of_lt h (by decide)
/-! ### expressions in short: the name that stands in the i-th slot -/
section
variable {X : Cx}
end
/-! ### tests -/
theorem iteF {A B : Prop} (h : B) : if false = true then A else B := by
  rw [if_neg Bool.false_ne_true]
  exact h
theorem iteT {A B : Prop} (h : A) : if true = true then A else B := by
  rw [if_pos rfl]
  exact h
/-! ### heaps -/
/-- all that was tracked is as it was -/
def Same (H H' : Hp) : Prop := ∀ b o, H b = some o → H' b = some o
theorem Same.refl (H : Hp) : Same H H := fun _ _ h => h
theorem Same.trans {H H1 H2 : Hp} (a : Same H H1) (b : Same H1 H2) : Same H H2 := fun c o h => b c o (a c o h)
theorem Same.free {H H' : Hp} (e : Same H H') {l : Addr} (h : H' l = Option.none) : H l = Option.none := by
  cases q : H l with
  | none => rfl
  | some o =>
    rw [e l o q] at h
    cases h
theorem Same.seq {K : PySem.W.Frag} {H H' : Hp} {a : Addr} {xs : List V} (e : Same H H') (h : SqL K H a xs) : SqL K H' a xs := by
  rcases h with (h | ⟨o, h⟩) | h
  · exact .inl (.inl (e _ _ h))
  · exact .inl (.inr ⟨o, e _ _ h⟩)
  · exact .inr h
end L2
set_option linter.all false
namespace L2.LW
open PySem
inductive D where
  | int (i : Int) | bl (b : Bool) | non | str (x : Str) | tup (l : List D) | lst (l : List D)
  /-- a dict: t: its keys are tuples of ints (else ints); its keys, its values -/
  | dct (t : Bool) (ks vs : List D)
mutual
def eqD : D → D → Bool
  | .int a, .int b => a == b
  | .bl a, .bl b => a == b
  | .int a, .bl b => a == (if b then 1 else 0)
  | .bl a, .int b => (if a then 1 else 0) == b
  | .non, .non => true
  | .str a, .str b => a == b
  | .tup xs, .tup ys => eqDs xs ys
  | .lst xs, .lst ys => eqDs xs ys
  | _, _ => false
def eqDs : List D → List D → Bool
  | [], [] => true
  | x :: xs, y :: ys => eqD x y && eqDs xs ys
  | _, _ => false
end
mutual
/-- no list within -/
def plain : D → Bool
  | .lst _ => false
  | .dct _ _ _ => false
  | .tup l => plains l
  | _ => true
def plains : List D → Bool
  | [] => true
  | x :: xs => plain x && plains xs
end
/-- a slot's content, or a value: a frozen datum, an object (a list, a dict) that is one's own (a slot: owned; a value: new) or only seen; in a slot alone: a caller's object that may be changed here -/
inductive SV where
  | val (d : D) | obj (o : Bool) (d : D) | io (d : D)
abbrev SV.lis (o : Bool) (ds : List D) : SV := .obj o (.lst ds)
def toD : SV → Option D
  | .val d => some d
  | .obj true d => some d
  | _ => none
def seeD : SV → D
  | .val d => d
  | .obj _ d => d
  | .io d => d
def SV.lent : SV → Bool
  | .val _ => false
  | .obj true _ => false
  | _ => true
/-- no list or dict within an object -/
def plainO : D → Bool
  | .lst ds => plains ds
  | .dct _ _ vs => plains vs
  | d => plain d
def SV.plain : SV → Bool
  | .val d => LW.plain d
  | .obj _ d => plainO d
  | .io _ => false
abbrev Env := List (Option SV)
inductive Ty where
  | bool | int | str | list | tuple
  deriving DecidableEq
inductive Prim where
  | add | sub | mul | fdiv | mod | neg | eq | ne | lt | le | gt | ge | isN | notN | inn | nin | idx | len | abs | min2 | max2 | sorted | skeys | toList | toTup | all | inst (t : Ty) | cutTo | maxL | minL | sumL | intOf
  deriving DecidableEq
mutual
inductive E where
  | int (i : Int) | bl (b : Bool) | non | str (x : Str)
  | var (i : Nat)
  | prim (p : Prim) (es : Es)
  | tup (es : Es) | lst (es : Es)
  | and (a b : E) | or (a b : E) | not (a : E)
  | chain (p q : Prim) (a b c : E)
  | ite (c a b : E)
  | call (f : Nat) (es : Es)
  | comp (rng : Bool) (src : Es) (cond elt : E)
  | dnew (t : Bool) | done (t : Bool) (k v : E)
inductive Es where
  | nil | cons (e : E) (es : Es)
end
def hasTy : Ty → D → Bool
  | .bool, .bl _ => true
  | .int, .int _ => true
  | .int, .bl _ => true
  | .str, .str _ => true
  | .list, .lst _ => true
  | .tuple, .tup _ => true
  | _, _ => false
def ints? : List D → Option (List Int)
  | [] => some []
  | .int i :: r => (ints? r).map (i :: ·)
  | _ => none
def lexLt : List Int → List Int → Bool
  | _, [] => false
  | [], _ :: _ => true
  | x :: xs, y :: ys => if x = y then lexLt xs ys else decide (x < y)
def ixN (n : Nat) (i : Int) : Option Nat := if 0 ≤ i then (if i < n then some i.toNat else none) else if -(n : Int) ≤ i then some (i + n).toNat else none
def atI {α : Type} (xs : List α) (i : Int) : Option α := (ixN xs.length i).bind fun j => xs[j]?
def bools? : List D → Option (List Bool)
  | [] => some []
  | .bl i :: r => (bools? r).map (i :: ·)
  | _ => none
/-- at most so many items in a list -/
def line : Nat := 16777216
def seqOf : D → Option (List D)
  | .tup l => some l
  | .lst l => some l
  | _ => none
/-- tuples of ints, in their order -/
def tups? : List D → Option (List (List Int))
  | [] => some []
  | .tup l :: r => (ints? l).bind fun x => (tups? r).map (x :: ·)
  | _ => none
def insT (x : List Int) : List (List Int) → List (List Int)
  | [] => [x]
  | y :: r => if lexLt x y then x :: y :: r else y :: insT x r
def sortT : List (List Int) → List (List Int)
  | [] => []
  | x :: r => insT x (sortT r)
def sortI (l : List Int) : List Int := l.mergeSort (fun a b => decide (a ≤ b))
/-- no text within, and not deeper than so many -/
def shal : Nat → D → Bool
  | _, .int _ => true
  | _, .bl _ => true
  | _, .non => true
  | _, .str _ => false
  | 0, _ => false
  | n + 1, .tup l => l.all (shal n)
  | n + 1, .lst l => l.all (shal n)
  | _ + 1, .dct _ _ _ => false
/-! ### dicts -/
def isKey : Bool → D → Bool
  | false, .int _ => true
  | true, .tup l => (ints? l).isSome
  | _, _ => false
def kix (ks : List D) (k : D) : Option Nat := ks.findIdx? fun x => eqD x k
def dget (ks vs : List D) (k : D) : Option D := (kix ks k).bind fun i => vs[i]?
def dput (t : Bool) (ks vs : List D) (k v : D) : D := if (kix ks k).isSome then .dct t ks (List.zipWith (fun k' v' => if eqD k' k then v else v') ks vs) else .dct t (ks ++ [k]) (vs ++ [v])
def okInt (r : Int) : Option SV := some (.val (.int r))
def okBl (r : Bool) : Option SV := some (.val (.bl r))
def pAdd : List D → Option SV
  | [.int a, .int b] => okInt (a + b)
  | [.lst a, .lst b] => if a.length + b.length ≤ line then some (SV.obj true (.lst (a ++ b))) else none
  | _ => none
def pSub : List D → Option SV
  | [.int a, .int b] => okInt (a - b)
  | _ => none
def pMul : List D → Option SV
  | [.int a, .int b] => if (-(2 ^ 64) < a ∧ a < 2 ^ 64) ∨ (-(2 ^ 64) < b ∧ b < 2 ^ 64) then okInt (a * b) else none
  | _ => none
def pFdiv : List D → Option SV
  | [.int a, .int b] => if 0 < b ∧ b < 1073741824 then okInt (a / b) else none
  | _ => none
def pMod : List D → Option SV
  | [.int a, .int b] => if 0 < b then okInt (a % b) else none
  | _ => none
def pNeg : List D → Option SV
  | [.int a] => okInt (-a)
  | _ => none
def pEq : List D → Option SV
  | [a, b] => if shal 8 a && shal 8 b then okBl (eqD a b) else none
  | _ => none
def pNe : List D → Option SV
  | [a, b] => if shal 8 a && shal 8 b then okBl (!eqD a b) else none
  | _ => none
def pLt : List D → Option SV
  | [.int a, .int b] => okBl (decide (a < b))
  | [.tup a, .tup b] => (ints? a).bind fun x => (ints? b).bind fun y => okBl (lexLt x y)
  | _ => none
def pLe : List D → Option SV
  | [.int a, .int b] => okBl (decide (a ≤ b))
  | _ => none
def pGt : List D → Option SV
  | [.int a, .int b] => okBl (decide (b < a))
  | _ => none
def pGe : List D → Option SV
  | [.int a, .int b] => okBl (decide (b ≤ a))
  | _ => none
def isNon : D → Bool
  | .non => true
  | _ => false
def pIsN : List D → Option SV
  | [d] => okBl (isNon d)
  | _ => none
def pNotN : List D → Option SV
  | [d] => okBl (!isNon d)
  | _ => none
def pIn : List D → Option SV
  | [x, .dct t ks _] => if isKey t x then okBl (kix ks x).isSome else none
  | [x, .tup l] => if shal 8 x && l.all (shal 8) then okBl (l.any fun y => eqD y x) else none
  | [x, .lst l] => if shal 8 x && l.all (shal 8) then okBl (l.any fun y => eqD y x) else none
  | _ => none
def pNin : List D → Option SV
  | [x, .dct t ks _] => if isKey t x then okBl (!(kix ks x).isSome) else none
  | [x, .tup l] => if shal 8 x && l.all (shal 8) then okBl (!l.any fun y => eqD y x) else none
  | [x, .lst l] => if shal 8 x && l.all (shal 8) then okBl (!l.any fun y => eqD y x) else none
  | _ => none
def pIdx : List D → Option SV
  | [.dct t ks vs, k] => if isKey t k then (dget ks vs k).map .val else none
  | [.tup l, .int i] => (atI l i).map .val
  | [.lst l, .int i] => (atI l i).map .val
  | _ => none
def pLen : List D → Option SV
  | [.tup l] => okInt l.length
  | [.lst l] => okInt l.length
  | _ => none
def pAbs : List D → Option SV
  | [.int i] => okInt (if i < 0 then -i else i)
  | _ => none
def pMin2 : List D → Option SV
  | [.int i, .int j] => okInt (if j < i then j else i)
  | _ => none
def pMax2 : List D → Option SV
  | [.int i, .int j] => okInt (if j > i then j else i)
  | _ => none
def sortedL (l : List D) : Option SV := match ints? l with
  | some ns => if ns.length < 64 then some (.obj true (.lst ((sortI ns).map .int))) else none
  | none => (tups? l).bind fun ks => if ks.length < 64 ∧ ks.Nodup ∧ ks.all (fun k => !k.isEmpty) = true then some (.obj true (.lst ((sortT ks).map fun k => .tup (k.map .int)))) else none
def pSorted : List D → Option SV
  | [.lst l] => sortedL l
  | _ => none
def sortedK (l : List D) : Option SV := (tups? l).bind fun ks => if ks.length < 64 ∧ ks.Nodup ∧ ks.all (fun k => !k.isEmpty) = true then some (.obj true (.lst ((sortT ks).map fun k => .tup (k.map .int)))) else none
def pSkeys : List D → Option SV
  | [.dct true ks _] => sortedK ks
  | _ => none
def pToList : List D → Option SV
  | [.tup l] => some (SV.obj true (.lst l))
  | [.lst l] => some (SV.obj true (.lst l))
  | _ => none
def pToTup : List D → Option SV
  | [.tup l] => some (.val (.tup l))
  | [.lst l] => some (.val (.tup l))
  | _ => none
def pAll : List D → Option SV
  | [.lst l] => (bools? l).bind fun bs => okBl (bs.all id)
  | _ => none
def pInst (t : Ty) : List D → Option SV
  | [d] => okBl (hasTy t d)
  | _ => none
def pCutTo : List D → Option SV
  | [.lst l, .int k] => if 0 ≤ k then some (SV.obj true (.lst (l.take k.toNat))) else none
  | _ => none
def pMaxL : List D → Option SV
  | [.lst l] => (ints? l).bind fun ns => match ns with
    | [] => none
    | n :: r => okInt (r.foldl max n)
  | _ => none
def pMinL : List D → Option SV
  | [.lst l] => (ints? l).bind fun ns => match ns with
    | [] => none
    | n :: r => okInt (r.foldl min n)
  | _ => none
def pSumL : List D → Option SV
  | [.lst l] => (ints? l).bind fun ns => okInt ns.sum
  | [.tup l] => (ints? l).bind fun ns => okInt ns.sum
  | _ => none
def pIntOf : List D → Option SV
  | [.int i] => okInt i
  | [.bl b] => okInt (if b then 1 else 0)
  | _ => none
def primD : Prim → List D → Option SV
  | .add => pAdd | .sub => pSub | .mul => pMul | .fdiv => pFdiv | .mod => pMod | .neg => pNeg | .eq => pEq | .ne => pNe | .lt => pLt | .le => pLe | .gt => pGt | .ge => pGe
  | .isN => pIsN | .notN => pNotN | .inn => pIn | .nin => pNin | .idx => pIdx | .len => pLen | .abs => pAbs | .min2 => pMin2 | .max2 => pMax2
  | .sorted => pSorted | .skeys => pSkeys | .toList => pToList | .toTup => pToTup | .all => pAll | .inst t => pInst t | .cutTo => pCutTo | .maxL => pMaxL | .minL => pMinL | .sumL => pSumL | .intOf => pIntOf
def truth : SV → Option Bool
  | .val (.bl b) => some b
  | .val (.int i) => some (i != 0)
  | .val .non => some false
  | .val (.tup l) => some (!l.isEmpty)
  | .val (.lst l) => some (!l.isEmpty)
  | .obj _ (.lst l) => some (!l.isEmpty)
  | _ => none
def look (ρ : Env) (i : Nat) : Option SV := match ρ[i]? with
  | some (some (.val d)) => some (.val d)
  | some (some (.obj _ d)) => some (.obj false d)
  | some (some (.io d)) => some (.obj false d)
  | _ => none
/-- the slot is not a caller's object -/
def free (ρ : Env) (i : Nat) : Bool := match ρ[i]? with
  | some (some (.io _)) => false
  | _ => true
/-- the object in a slot that may be changed; another put in its stead -/
def SV.cell : SV → Option D
  | .obj true d => some d
  | .io d => some d
  | _ => none
def SV.put : SV → D → SV
  | .io _, d => .io d
  | _, d => .obj true d
def inR (j : Int) : Prop := -(2 ^ 62) ≤ j ∧ j < 2 ^ 62
instance (j : Int) : Decidable (inR j) := by unfold inR; exact inferInstance
def itemsOf : Bool → List SV → Option (List D)
  | false, [r] => seqOf (seeD r)
  | true, [.val (.int n)] => if inR n then some ((List.range n.toNat).map fun (k : Nat) => D.int (0 + (k : Int))) else none
  | true, [.val (.int a), .val (.int b)] => if inR a ∧ inR b then some ((List.range (b - a).toNat).map fun (k : Nat) => D.int (a + (k : Int))) else none
  | _, _ => none
def compL (test : D → Option Bool) (elt : D → Option SV) : List D → Option (List D)
  | [] => some []
  | d :: r => (test d).bind fun b => match b with
    | true => (elt d).bind fun x => (toD x).bind fun y => (compL test elt r).map (y :: ·)
    | false => compL test elt r
def callR (rs : List SV) (r : Option SV) : Option SV := r.bind fun x => if rs.any SV.lent && !x.plain then none else some x
def toDs : List SV → Option (List D)
  | [] => some []
  | r :: rs => (toD r).bind fun d => (toDs rs).map (d :: ·)
mutual
def evE (fn : Nat → List D → Option SV) : E → Env → Option SV
  | .int i, _ => some (.val (.int i))
  | .bl b, _ => some (.val (.bl b))
  | .non, _ => some (.val .non)
  | .str x, _ => some (.val (.str x))
  | .var i, ρ => look ρ i
  | .prim p es, ρ => (evEs fn es ρ).bind fun rs => primD p (rs.map seeD)
  | .tup es, ρ => (evEs fn es ρ).bind fun rs => (toDs rs).map fun ds => .val (.tup ds)
  | .lst es, ρ => (evEs fn es ρ).bind fun rs => (toDs rs).map fun ds => SV.obj true (.lst ds)
  | .and a b, ρ => (evE fn a ρ).bind fun r => match r with
    | .val (.bl true) => evE fn b ρ
    | .val (.bl false) => some (.val (.bl false))
    | _ => none
  | .or a b, ρ => (evE fn a ρ).bind fun r => match r with
    | .val (.bl true) => some (.val (.bl true))
    | .val (.bl false) => evE fn b ρ
    | _ => none
  | .not a, ρ => (evE fn a ρ).bind fun r => match r with
    | .val (.bl b) => some (.val (.bl (!b)))
    | _ => none
  | .chain p q a b c, ρ => (evE fn a ρ).bind fun x => (evE fn b ρ).bind fun y => (primD p [seeD x, seeD y]).bind fun z => match z with
    | .val (.bl true) => (evE fn c ρ).bind fun w => primD q [seeD y, seeD w]
    | .val (.bl false) => some (.val (.bl false))
    | _ => none
  | .ite c a b, ρ => (evT fn c ρ).bind fun k => if k then evE fn a ρ else evE fn b ρ
  | .call f es, ρ => (evEs fn es ρ).bind fun rs => callR rs (fn f (rs.map seeD))
  | .dnew t, _ => some (.obj true (.dct t [] []))
  | .done t k v, ρ => (evE fn k ρ).bind fun x => (evE fn v ρ).bind fun y => (toD x).bind fun a => (toD y).bind fun b => if isKey t a then some (.obj true (.dct t [a] [b])) else none
  | .comp rng src cond elt, ρ => (evEs fn src ρ).bind fun rs => (itemsOf rng rs).bind fun ds =>
    if ds.length ≤ line then (compL (fun d => evT fn cond (some (.val d) :: ρ)) (fun d => evE fn elt (some (.val d) :: ρ)) ds).map fun l => SV.obj true (.lst l) else none
def evEs (fn : Nat → List D → Option SV) : Es → Env → Option (List SV)
  | .nil, _ => some []
  | .cons e es, ρ => (evE fn e ρ).bind fun r => (evEs fn es ρ).map (r :: ·)
def evT (fn : Nat → List D → Option SV) : E → Env → Option Bool
  | .and a b, ρ => (evT fn a ρ).bind fun k => if k then evT fn b ρ else some false
  | .or a b, ρ => (evT fn a ρ).bind fun k => if k then some true else evT fn b ρ
  | .not a, ρ => (evT fn a ρ).map (!·)
  | .int i, _ => some (i != 0)
  | .bl b, _ => some b
  | .non, _ => some false
  | .str _, _ => none
  | .var i, ρ => (look ρ i).bind truth
  | .prim p es, ρ => (evEs fn es ρ).bind fun rs => (primD p (rs.map seeD)).bind truth
  | .tup _, _ => none
  | .lst _, _ => none
  | .chain p q a b c, ρ => (evE fn a ρ).bind fun x => (evE fn b ρ).bind fun y => (primD p [seeD x, seeD y]).bind fun z => match z with
    | .val (.bl true) => (evE fn c ρ).bind fun w => (primD q [seeD y, seeD w]).bind truth
    | .val (.bl false) => some false
    | _ => none
  | .ite _ _ _, _ => none
  | .call f es, ρ => (evEs fn es ρ).bind fun rs => (callR rs (fn f (rs.map seeD))).bind truth
  | .comp rng src cond elt, ρ => (evEs fn src ρ).bind fun rs => (itemsOf rng rs).bind fun ds =>
    if ds.length ≤ line then (compL (fun d => evT fn cond (some (.val d) :: ρ)) (fun d => evE fn elt (some (.val d) :: ρ)) ds).map fun l => !l.isEmpty else none
  | .dnew _, _ => none
  | .done _ _ _, _ => none
end
/-- an answer of a def: what is returned, and what became of the objects handed in to be changed -/
inductive Ans where
  | ok (r : SV) (outs : List D)
def prj (fa : Nat → List D → Option Ans) (f : Nat) (ds : List D) : Option SV := match fa f ds with
  | some (.ok r []) => some r
  | _ => none
/-- arguments, where dicts are handed in to be changed: a value, a slot's dict, a new dict -/
inductive MA where
  | nil | e (c : E) (r : MA) | s (i : Nat) (r : MA) | n (t : Bool) (r : MA)
inductive AV where
  | e (d : D) | l (ds : List D) | s (i : Nat) (d : D) | n (t : Bool)
/-- expressions that change dicts: a call, an operation upon a value and such a call -/
inductive M where
  | call (f : Nat) (ma : MA)
  | op (p : Prim) (a : E) (m : M)
/-- a dict without lists and dicts within -/
def isDct : D → Bool
  | .dct _ _ vs => plains vs
  | _ => false
/-- a value of one's own without lists and dicts within -/
def SV.fine : SV → Bool
  | .val d => LW.plain d
  | .obj true d => plainO d
  | _ => false
def avOf : SV → Option AV
  | .val (.lst ds) => if plains ds then some (.l ds) else none
  | .val d => if plain d then some (.e d) else none
  | .obj _ (.lst ds) => if plains ds then some (.l ds) else none
  | _ => none
def cellAtS (ρ : Env) (i : Nat) : Option D := match ρ[i]? with
  | some (some x) => x.cell
  | _ => none
def evMA (fn : Nat → List D → Option SV) : MA → Env → Option (List AV)
  | .nil, _ => some []
  | .e c r, ρ => (evE fn c ρ).bind fun x => (avOf x).bind fun a => (evMA fn r ρ).map (a :: ·)
  | .s i r, ρ => (cellAtS ρ i).bind fun d => if isDct d then (evMA fn r ρ).map (.s i d :: ·) else none
  | .n t r, ρ => (evMA fn r ρ).map (.n t :: ·)
def seeA : AV → D
  | .e d => d
  | .l ds => .lst ds
  | .s _ d => d
  | .n t => .dct t [] []
def putS (ρ : Env) (i : Nat) (d : D) : Env := match ρ[i]? with
  | some (some x) => ρ.set i (some (x.put d))
  | _ => ρ
def putO (ρ : Env) : List AV → List D → Option Env
  | [], [] => some ρ
  | .s i _ :: r, d :: ds => putO (putS ρ i d) r ds
  | .n _ :: r, _ :: ds => putO ρ r ds
  | .e _ :: r, ds => putO ρ r ds
  | .l _ :: r, ds => putO ρ r ds
  | _, _ => none
def evM (fa : Nat → List D → Option Ans) : M → Env → Option (SV × Env)
  | .call f ma, ρ => (evMA (prj fa) ma ρ).bind fun xs => (fa f (xs.map seeA)).bind fun a => match a with
    | .ok r outs => if r.fine && outs.all plainO then (putO ρ xs outs).map fun ρ' => (r, ρ') else none
  | .op p a m, ρ => (evE (prj fa) a ρ).bind fun x => match x with
    | .val d => if plain d then (evM fa m ρ).bind fun y => (primD p [d, seeD y.1]).map fun z => (z, y.2) else none
    | _ => none
mutual
inductive S where
  | expr (e : E) | asg (i : Nat) (e : E) | mov (i j : Nat) | app (i : Nat) (e : E) | dset (i : Nat) (k v : E) | dupd (i j : Nat) | exprM (m : M) | asgM (i : Nat) (m : M) | ifO (c : E) (m : M) (a b : Ss) | ret (e : E) | retV (i : Nat) | retN
  | ifs (c : E) (a b : Ss) | for_ (i : Nat) (rng : Bool) (src : Es) (body : Ss) | forV (i j : Nat) (body : Ss) | forU (i j : Nat) (rng : Bool) (src : Es) (body : Ss) | while_ (c : E) (body : Ss) | frz (js : List Nat) (s : S) | brk | cnt | pass | stop
inductive Ss where
  | nil | cons (s : S) (ss : Ss)
end
inductive Fl where
  | nx | br | ct | rt (r : SV)
def forL (i : Nat) (body : Env → Option (Fl × Env)) : List D → Env → Option (Fl × Env)
  | [], ρ => some (.nx, ρ)
  | d :: r, ρ => (body (ρ.set i (some (.val d)))).bind fun x => match x.1 with
    | .nx => forL i body r x.2
    | .ct => forL i body r x.2
    | .br => some (.nx, x.2)
    | .rt v => some (.rt v, x.2)
/-- a cell of a floor -/
def small8 : D → Bool
  | .tup [.int a, .int b] => decide (0 ≤ a ∧ a ≤ 7 ∧ 0 ≤ b ∧ b ≤ 7)
  | _ => false
def dmerge (ks vs : List D) : List D → List D → List D × List D
  | k :: ks2, v :: vs2 => match dput true ks vs k v with
    | .dct _ a b => dmerge a b ks2 vs2
    | _ => (ks, vs)
  | _, _ => (ks, vs)
/-- all of a dict into another -/
def dupdV (ρ : Env) (i : Nat) (x : SV) : Option D → Option D → Option (Fl × Env)
  | some (.dct true ks vs), some (.dct true ks2 vs2) => if ks2.all small8 && decide (ks.length + ks2.length < line) then some (.nx, ρ.set i (some (x.put (.dct true (dmerge ks vs ks2 vs2).1 (dmerge ks vs ks2 vs2).2)))) else none
  | _, _ => none
def dupdD (ρ : Env) (i j : Nat) : Option (Fl × Env) := if i = j then none else match ρ[i]? with
  | some (some x) => dupdV ρ i x x.cell (cellAtS ρ j)
  | _ => none
/-- over pairs, unpacked -/
def forLU (i j : Nat) (body : Env → Option (Fl × Env)) : List D → Env → Option (Fl × Env)
  | [], ρ => some (.nx, ρ)
  | .tup [a, b] :: r, ρ => (body ((ρ.set i (some (.val a))).set j (some (.val b)))).bind fun x => match x.1 with
    | .nx => forLU i j body r x.2
    | .ct => forLU i j body r x.2
    | .br => some (.nx, x.2)
    | .rt v => some (.rt v, x.2)
  | _, _ => none
def whileL (test : Env → Option Bool) (body : Env → Option (Fl × Env)) : Nat → Env → Option (Fl × Env)
  | 0, _ => none
  | n + 1, ρ => (test ρ).bind fun b => if b then (body ρ).bind fun x => (match x.1 with
    | .nx => whileL test body n x.2
    | .ct => whileL test body n x.2
    | .br => some (.nx, x.2)
    | .rt v => some (.rt v, x.2)) else some (.nx, ρ)
def freeze (ρ : Env) (j : Nat) : Option (List D × Env) := match ρ[j]? with
  | some (some (.val d)) => (seqOf d).map fun l => (l, ρ)
  | some (some (.obj _ (.lst ds))) => some (ds, ρ.set j (some (.val (.lst ds))))
  | _ => none
/-- a slot's own object is changed no more -/
def frz1 (ρ : Env) (j : Nat) : Env := match ρ[j]? with
  | some (some (.obj true d)) => ρ.set j (some (.val d))
  | _ => ρ
mutual
def exS (fa : Nat → List D → Option Ans) (fuel : Nat) : S → Env → Option (Fl × Env)
  | .expr e, ρ => (evE (prj fa) e ρ).map fun _ => (.nx, ρ)
  | .asg i e, ρ => (evE (prj fa) e ρ).bind fun r => if r.lent || !free ρ i then none else some (.nx, ρ.set i (some r))
  | .mov i j, ρ => if free ρ i then (match ρ[j]? with
    | some (some (.val d)) => some (.nx, ρ.set i (some (.val d)))
    | some (some (.obj _ d)) => some (.nx, (ρ.set j (some (.val d))).set i (some (.val d)))
    | _ => none) else none
  | .app i e, ρ => match ρ[i]? with
    | some (some x) => (match x.cell with
      | some (.lst ds) => (evE (prj fa) e ρ).bind fun r => (toD r).bind fun d => if ds.length < line then some (.nx, ρ.set i (some (x.put (.lst (ds ++ [d]))))) else none
      | _ => none)
    | _ => none
  | .dupd i j, ρ => dupdD ρ i j
  | .dset i k v, ρ => match ρ[i]? with
    | some (some x) => (match x.cell with
      | some (.dct t ks vs) => (evE (prj fa) v ρ).bind fun r => (toD r).bind fun d => (evE (prj fa) k ρ).bind fun r => (toD r).bind fun a => if isKey t a && decide (ks.length < line) then some (.nx, ρ.set i (some (x.put (dput t ks vs a d)))) else none
      | _ => none)
    | _ => none
  | .exprM m, ρ => (evM fa m ρ).map fun x => (.nx, x.2)
  | .asgM i m, ρ => (evM fa m ρ).bind fun x => if x.1.lent || !free x.2 i then none else some (.nx, x.2.set i (some (.val (seeD x.1))))
  | .ifO c m a b, ρ => (evT (prj fa) c ρ).bind fun k => if k then exSs fa fuel a ρ else (evM fa m ρ).bind fun x => (truth x.1).bind fun k => if k then exSs fa fuel a x.2 else exSs fa fuel b x.2
  | .ret e, ρ => (evE (prj fa) e ρ).bind fun r => if r.lent then none else some (.rt r, ρ)
  | .retV i, ρ => match ρ[i]? with
    | some (some (.val d)) => some (.rt (.val d), ρ)
    | some (some (.obj _ d)) => some (.rt (.obj true d), ρ.set i none)
    | _ => none
  | .retN, ρ => some (.rt (.val .non), ρ)
  | .ifs c a b, ρ => (evT (prj fa) c ρ).bind fun k => if k then exSs fa fuel a ρ else exSs fa fuel b ρ
  | .for_ i rng src body, ρ => (evEs (prj fa) src ρ).bind fun rs => if rs.any SV.lent || !free ρ i then none else (itemsOf rng rs).bind fun ds => forL i (exSs fa fuel body) ds ρ
  | .forV i j body, ρ => if free ρ i then (freeze ρ j).bind fun x => forL i (exSs fa fuel body) x.1 x.2 else none
  | .forU i j rng src body, ρ => (evEs (prj fa) src ρ).bind fun rs => if rs.any SV.lent || !free ρ i || !free ρ j then none else (itemsOf rng rs).bind fun ds => forLU i j (exSs fa fuel body) ds ρ
  | .while_ c body, ρ => whileL (evT (prj fa) c) (exSs fa fuel body) fuel ρ
  | .frz js s, ρ => exS fa fuel s (js.foldl frz1 ρ)
  | .brk, ρ => some (.br, ρ)
  | .cnt, ρ => some (.ct, ρ)
  | .pass, ρ => some (.nx, ρ)
  | .stop, _ => none
def exSs (fa : Nat → List D → Option Ans) (fuel : Nat) : Ss → Env → Option (Fl × Env)
  | .nil, ρ => some (.nx, ρ)
  | .cons s ss, ρ => (exS fa fuel s ρ).bind fun x => match x.1 with
    | .nx => exSs fa fuel ss x.2
    | _ => some x
end
structure Fn where
  np : Nat
  nl : Nat
  body : Ss
  io : List Nat := []
def outsOf (ρ : Env) : List Nat → Option (List D)
  | [] => some []
  | i :: r => match ρ[i]? with
    | some (some (.io d)) => (outsOf ρ r).map (d :: ·)
    | _ => none
def endA (io : List Nat) : Option (Fl × Env) → Option Ans
  | some (.rt r, ρ) => (outsOf ρ io).map (Ans.ok r)
  | some (.nx, ρ) => (outsOf ρ io).map (Ans.ok (.val .non))
  | _ => none
def args0 (io : List Nat) : Nat → List D → Env
  | _, [] => []
  | k, d :: r => some (if io.contains k then .io d else .val d) :: args0 io (k + 1) r
/-- a def called, with so much depth and fuel -/
def callA (P : Nat → Option Fn) (fuel : Nat) : Nat → Nat → List D → Option Ans
  | 0, _, _ => none
  | n + 1, f, ds => (P f).bind fun F => if ds.length = F.np then endA F.io (exSs (callA P fuel n) fuel F.body (args0 F.io 0 ds ++ List.replicate (F.nl - F.np) none)) else none
def callN (P : Nat → Option Fn) (fuel n : Nat) : Nat → List D → Option SV := prj (callA P fuel n)
end L2.LW
set_option linter.all false
set_option maxHeartbeats 4000000
namespace L2.LW
open PySem PySem.Spec PyProof.Rows
/-! ### data in the abstract heap -/
def KLst (K : PySem.W.Frag) (a : Addr) (xs : List V) : Prop :=
  ∃ (o : Obj) (its : Array Value) (n : Nat), K.lookup a = some o ∧ o.cls = .type "list" ∧ o.dict = Option.none ∧ o.data = .seq its n ∧ its.size ≤ sizeLine ∧ Vals xs its.toList
/-- a dict with ints as keys; with tuples of ints -/
def dKof (ns : List Int) (ys : List V) : List (Key × V) := (ns.map Sum.inl).zip ys
def dTof (ns : List (List Int)) (ys : List V) : List (List Key × V) := (ns.map fun l => l.map Sum.inl).zip ys
def kT (l : List Int) : D := .tup (l.map D.int)
mutual
inductive Rep (K : PySem.W.Frag) (W : Addr → Prop) (H : Hp) : D → V → Prop where
  | int (i : Int) : Rep K W H (.int i) (.int i)
  | bl (b : Bool) : Rep K W H (.bl b) (.bl b)
  | non : Rep K W H .non .non
  | str (x : Str) : Rep K W H (.str x) (.str x)
  | tup {a : Addr} {xs : List V} {ds : List D} (h : H a = some (.tup xs)) (r : Reps K W H ds xs) : Rep K W H (.tup ds) (.ref a)
  | lst {a : Addr} {xs : List V} {ds : List D} (h : (¬ W a ∧ Rd H a (.lst xs)) ∨ KLst K a xs) (r : Reps K W H ds xs) : Rep K W H (.lst ds) (.ref a)
  | dK {a : Addr} {ns : List Int} {ys : List V} {vs : List D} (n : ¬ W a) (h : H a = some (.dK (dKof ns ys))) (l : ns.length = ys.length) (r : Reps K W H vs ys) : Rep K W H (.dct false (ns.map D.int) vs) (.ref a)
  | dT {a : Addr} {ns : List (List Int)} {ys : List V} {vs : List D} (n : ¬ W a) (h : H a = some (.dT (dTof ns ys))) (l : ns.length = ys.length) (r : Reps K W H vs ys) : Rep K W H (.dct true (ns.map kT) vs) (.ref a)
inductive Reps (K : PySem.W.Frag) (W : Addr → Prop) (H : Hp) : List D → List V → Prop where
  | nil : Reps K W H [] []
  | cons {d : D} {v : V} {ds : List D} {vs : List V} (h : Rep K W H d v) (t : Reps K W H ds vs) : Reps K W H (d :: ds) (v :: vs)
end
/-- an object's content -/
inductive ORep (K : PySem.W.Frag) (W : Addr → Prop) (H : Hp) : D → HO → Prop where
  | lst {xs : List V} {ds : List D} (r : Reps K W H ds xs) : ORep K W H (.lst ds) (.lst xs)
  | dK {ns : List Int} {ys : List V} {vs : List D} (l : ns.length = ys.length) (r : Reps K W H vs ys) : ORep K W H (.dct false (ns.map D.int) vs) (.dK (dKof ns ys))
  | dT {ns : List (List Int)} {ys : List V} {vs : List D} (l : ns.length = ys.length) (r : Reps K W H vs ys) : ORep K W H (.dct true (ns.map kT) vs) (.dT (dTof ns ys))
/-- frozen things stay -/
structure Ext (W : Addr → Prop) (H : Hp) (W' : Addr → Prop) (H' : Hp) : Prop where
  keep : ∀ a o, H a = some o → ¬ W a → H' a = some o
  tup : ∀ a xs, H a = some (.tup xs) → H' a = some (.tup xs)
  frz : ∀ a o u, H a = some (.frz o u) → H' a = some (.frz o u)
  win : ∀ a, W' a → W a ∨ H a = Option.none
theorem Ext.refl (W : Addr → Prop) (H : Hp) : Ext W H W H := ⟨fun _ _ h _ => h, fun _ _ h => h, fun _ _ _ h => h, fun _ h => .inl h⟩
theorem Ext.out {W W' : Addr → Prop} {H H' : Hp} (x : Ext W H W' H') {a : Addr} {o : HO} (h : H a = some o) (n : ¬ W a) : ¬ W' a := fun w => by
  rcases x.win a w with q | q
  · exact n q
  · rw [h] at q; cases q
theorem Ext.trans {W W1 W2 : Addr → Prop} {H H1 H2 : Hp} (x : Ext W H W1 H1) (y : Ext W1 H1 W2 H2) : Ext W H W2 H2 := by
  refine ⟨fun a o h n => y.keep a o (x.keep a o h n) (x.out h n), fun a xs h => y.tup a xs (x.tup a xs h), fun a o u h => y.frz a o u (x.frz a o u h), fun a w => ?_⟩
  rcases y.win a w with q | q
  · exact x.win a q
  · cases e : H a with
    | none => exact .inr rfl
    | some o =>
      by_cases hw : W a
      · exact .inl hw
      · rw [x.keep a o e hw] at q; cases q
theorem Ext.same {W : Addr → Prop} {H H' : Hp} (s : Same H H') : Ext W H W H' := ⟨fun a o h _ => s a o h, fun a xs h => s a _ h, fun a o u h => s a _ h, fun _ w => .inl w⟩
section
variable {K : PySem.W.Frag} {W W' : Addr → Prop} {H H' : Hp}
mutual
theorem Rep.ext (x : Ext W H W' H') : ∀ {d : D} {v : V}, Rep K W H d v → Rep K W' H' d v
  | _, _, .int i => .int i
  | _, _, .bl b => .bl b
  | _, _, .non => .non
  | _, _, .str s => .str s
  | _, _, .dK n h l r => .dK (x.out h n) (x.keep _ _ h n) l (Reps.ext x r)
  | _, _, .dT n h l r => .dT (x.out h n) (x.keep _ _ h n) l (Reps.ext x r)
  | _, _, .tup h r => .tup (x.tup _ _ h) (Reps.ext x r)
  | _, _, .lst h r => .lst (by
      rcases h with ⟨n, h | ⟨o, h⟩⟩ | h
      · exact .inl ⟨x.out h n, .inl (x.keep _ _ h n)⟩
      · exact .inl ⟨x.out h n, .inr ⟨o, x.keep _ _ h n⟩⟩
      · exact .inr h) (Reps.ext x r)
theorem Reps.ext (x : Ext W H W' H') : ∀ {ds : List D} {vs : List V}, Reps K W H ds vs → Reps K W' H' ds vs
  | _, _, .nil => .nil
  | _, _, .cons h t => .cons (Rep.ext x h) (Reps.ext x t)
end
mutual
/-- fewer owners -/
theorem Rep.less (x : ∀ a, W' a → W a) : ∀ {d : D} {v : V}, Rep K W H d v → Rep K W' H d v
  | _, _, .int i => .int i
  | _, _, .bl b => .bl b
  | _, _, .non => .non
  | _, _, .str s => .str s
  | _, _, .dK n h l r => .dK (fun w => n (x _ w)) h l (Reps.less x r)
  | _, _, .dT n h l r => .dT (fun w => n (x _ w)) h l (Reps.less x r)
  | _, _, .tup h r => .tup h (Reps.less x r)
  | _, _, .lst h r => .lst (by
      rcases h with ⟨n, h⟩ | h
      · exact .inl ⟨fun w => n (x _ w), h⟩
      · exact .inr h) (Reps.less x r)
theorem Reps.less (x : ∀ a, W' a → W a) : ∀ {ds : List D} {vs : List V}, Reps K W H ds vs → Reps K W' H ds vs
  | _, _, .nil => .nil
  | _, _, .cons h t => .cons (Rep.less x h) (Reps.less x t)
end
mutual
/-- where no list is within, owners do not matter -/
theorem Rep.plain : ∀ {d : D} {v : V}, Rep K W H d v → LW.plain d = true → Rep K W' H d v
  | _, _, .int i, _ => .int i
  | _, _, .bl b, _ => .bl b
  | _, _, .non, _ => .non
  | _, _, .str s, _ => .str s
  | _, _, .tup h r, p => .tup h (Reps.plain r (by simpa [LW.plain] using p))
  | _, _, .lst h r, p => by simp [LW.plain] at p
  | _, _, .dK _ _ _ _, p => by simp [LW.plain] at p
  | _, _, .dT _ _ _ _, p => by simp [LW.plain] at p
theorem Reps.plain : ∀ {ds : List D} {vs : List V}, Reps K W H ds vs → plains ds = true → Reps K W' H ds vs
  | _, _, .nil, _ => .nil
  | _, _, .cons h t, p => by
    simp only [plains, Bool.and_eq_true] at p
    exact .cons (Rep.plain h p.1) (Reps.plain t p.2)
end
theorem Reps.length : ∀ {ds : List D} {vs : List V}, Reps K W H ds vs → ds.length = vs.length
  | _, _, .nil => rfl
  | _, _, .cons _ t => by simp [Reps.length t]
theorem Reps.get : ∀ {ds : List D} {vs : List V} {i : Nat} {d : D}, Reps K W H ds vs → ds[i]? = some d → ∃ v, vs[i]? = some v ∧ Rep K W H d v
  | _, _, _, _, .nil, e => by simp at e
  | _, _, 0, _, .cons h _, e => by simp at e; subst e; exact ⟨_, rfl, h⟩
  | _, _, i + 1, d, .cons _ t, e => by
    obtain ⟨v, h1, h2⟩ := Reps.get (i := i) (d := d) t (by simpa using e)
    exact ⟨v, by simpa using h1, h2⟩
theorem Reps.append : ∀ {ds es : List D} {vs us : List V}, Reps K W H ds vs → Reps K W H es us → Reps K W H (ds ++ es) (vs ++ us)
  | _, _, _, _, .nil, s => s
  | _, _, _, _, .cons h t, s => .cons h (Reps.append t s)
theorem Reps.take : ∀ {ds : List D} {vs : List V} (n : Nat), Reps K W H ds vs → Reps K W H (ds.take n) (vs.take n)
  | _, _, 0, _ => .nil
  | _, _, _ + 1, .nil => .nil
  | _, _, n + 1, .cons h t => .cons h (Reps.take n t)
theorem Reps.drop : ∀ {ds : List D} {vs : List V} (n : Nat), Reps K W H ds vs → Reps K W H (ds.drop n) (vs.drop n)
  | _, _, 0, r => r
  | _, _, _ + 1, .nil => .nil
  | _, _, n + 1, .cons _ t => Reps.drop n t
theorem Reps.ints : ∀ (ns : List Int), Reps K W H (ns.map D.int) (ns.map V.int)
  | [] => .nil
  | i :: r => .cons (.int i) (Reps.ints r)
theorem Reps.ofInts : ∀ {ds : List D} {vs : List V} {ns : List Int}, Reps K W H ds vs → ints? ds = some ns → vs = ns.map V.int
  | _, _, ns, .nil, e => by simp [ints?] at e; subst e; rfl
  | _, _, ns, .cons (d := d) h t, e => by
    cases h with
    | int i =>
      simp only [ints?, Option.map_eq_some_iff] at e
      obtain ⟨ms, e1, rfl⟩ := e
      rw [Reps.ofInts t e1]; rfl
    | _ => simp [ints?] at e
theorem ORep.ext {d : D} {o : HO} (h : ORep K W H d o) (x : Ext W H W' H') : ORep K W' H' d o := by
  cases h with
  | lst r => exact .lst (r.ext x)
  | dK l r => exact .dK l (r.ext x)
  | dT l r => exact .dT l (r.ext x)
theorem ORep.less {d : D} {o : HO} (h : ORep K W H d o) (x : ∀ a, W' a → W a) : ORep K W' H d o := by
  cases h with
  | lst r => exact .lst (r.less x)
  | dK l r => exact .dK l (r.less x)
  | dT l r => exact .dT l (r.less x)
theorem ORep.plain {d : D} {o : HO} (h : ORep K W H d o) (p : plainO d = true) : ORep K W' H d o := by
  cases h with
  | lst r => exact .lst (r.plain p)
  | dK l r => exact .dK l (r.plain p)
  | dT l r => exact .dT l (r.plain p)
/-- frozen -/
theorem ORep.rep {d : D} {o : HO} {a : Addr} (h : ORep K W H d o) (n : ¬ W a) (e : H a = some o) : Rep K W H d (.ref a) := by
  cases h with
  | lst r => exact .lst (.inl ⟨n, .inl e⟩) r
  | dK l r => exact .dK n e l r
  | dT l r => exact .dT n e l r
theorem ORep.kind {d : D} {o : HO} (h : ORep K W H d o) : (∀ xs, o ≠ .tup xs) ∧ (∀ b u, o ≠ .frz b u) := by
  cases h <;> exact ⟨fun _ z => (nomatch z), fun _ _ z => (nomatch z)⟩
/-! ### values, seen or owned -/
def add (W : Addr → Prop) (a : Addr) : Addr → Prop := fun b => W b ∨ b = a
/-- a frozen or lent value -/
inductive Frz (K : PySem.W.Frag) (W : Addr → Prop) (H : Hp) : SV → V → Prop where
  | val {d : D} {v : V} (h : Rep K W H d v) : Frz K W H (.val d) v
  | lis {d : D} {a : Addr} {o : HO} (h : ¬ W a) (e : H a = some o) (r : ORep K W H d o) : Frz K W H (.obj true d) (.ref a)
  | see {d : D} {a : Addr} {o : HO} (h : W a) (e : H a = some o) (r : ORep K W H d o) : Frz K W H (.obj false d) (.ref a)
/-- an expression's value: H ahead, H' behind -/
inductive Res (K : PySem.W.Frag) (W : Addr → Prop) (H H' : Hp) : SV → V → Prop where
  | val {d : D} {v : V} (h : Rep K W H' d v) : Res K W H H' (.val d) v
  | new {d : D} {a : Addr} {o : HO} (h : H a = Option.none) (e : H' a = some o) (r : ORep K (add W a) H' d o) : Res K W H H' (.obj true d) (.ref a)
  | see {d : D} {a : Addr} {o : HO} (h : W a) (e : H' a = some o) (r : ORep K W H' d o) : Res K W H H' (.obj false d) (.ref a)
def Wf (W : Addr → Prop) (H : Hp) : Prop := ∀ a, W a → H a ≠ Option.none
theorem Res.frz {r : SV} {v : V} (h : Res K W H H' r v) (wf : Wf W H) : Frz K W H' r v := by
  cases h with
  | val h => exact .val h
  | new h e r => exact .lis (fun w => wf _ w h) e (r.less fun b w => .inl w)
  | see h e r => exact .see h e r
theorem Frz.same {r : SV} {v : V} (h : Frz K W H r v) (s : Same H H') : Frz K W H' r v := by
  cases h with
  | val h => exact .val (h.ext (.same s))
  | lis h e r => exact .lis h (s _ _ e) (r.ext (.same s))
  | see h e r => exact .see h (s _ _ e) (r.ext (.same s))
/-- what a read sees -/
def Sees (K : PySem.W.Frag) (W : Addr → Prop) (H : Hp) (d : D) (v : V) : Prop :=
  Rep K W H d v ∨ ∃ a o, v = .ref a ∧ H a = some o ∧ ORep K W H d o
theorem Frz.sees {r : SV} {v : V} (h : Frz K W H r v) : Sees K W H (seeD r) v := by
  cases h with
  | val h => exact .inl h
  | lis h e r => exact .inr ⟨_, _, rfl, e, r⟩
  | see h e r => exact .inr ⟨_, _, rfl, e, r⟩
theorem Sees.lst {ds : List D} {v : V} (h : Sees K W H (.lst ds) v) : ∃ a xs, v = .ref a ∧ SqL K H a xs ∧ Reps K W H ds xs := by
  rcases h with h | ⟨a, o, rfl, e, r⟩
  · cases h with
    | lst h r =>
      rcases h with ⟨_, h⟩ | h
      · exact ⟨_, _, rfl, .inl h, r⟩
      · exact ⟨_, _, rfl, .inr h, r⟩
  · cases r with
    | lst r => exact ⟨_, _, rfl, .of e, r⟩
theorem Sees.tupH {ds : List D} {v : V} (h : Sees K W H (.tup ds) v) : ∃ a xs, v = .ref a ∧ H a = some (.tup xs) ∧ Reps K W H ds xs := by
  rcases h with h | ⟨a, o, rfl, e, r⟩
  · cases h with
    | tup h r => exact ⟨_, _, rfl, h, r⟩
  · cases r
theorem Sees.tup {ds : List D} {v : V} (h : Sees K W H (.tup ds) v) : ∃ a xs, v = .ref a ∧ SqT K H a xs ∧ Reps K W H ds xs := by
  obtain ⟨a, xs, e, h, r⟩ := h.tupH
  exact ⟨a, xs, e, .of h, r⟩
theorem Sees.dK {ks vs : List D} {v : V} (h : Sees K W H (.dct false ks vs) v) : ∃ a ns ys, v = .ref a ∧ ks = ns.map D.int ∧ H a = some (.dK (dKof ns ys)) ∧ ns.length = ys.length ∧ Reps K W H vs ys := by
  rcases h with h | ⟨a, o, rfl, e, r⟩
  · cases h with
    | dK n h l r => exact ⟨_, _, _, rfl, rfl, h, l, r⟩
  · cases r with
    | dK l r => exact ⟨_, _, _, rfl, rfl, e, l, r⟩
theorem Sees.dT {ks vs : List D} {v : V} (h : Sees K W H (.dct true ks vs) v) : ∃ a ns ys, v = .ref a ∧ ks = ns.map kT ∧ H a = some (.dT (dTof ns ys)) ∧ ns.length = ys.length ∧ Reps K W H vs ys := by
  rcases h with h | ⟨a, o, rfl, e, r⟩
  · cases h with
    | dT n h l r => exact ⟨_, _, _, rfl, rfl, h, l, r⟩
  · cases r with
    | dT l r => exact ⟨_, _, _, rfl, rfl, e, l, r⟩
theorem Sees.int {i : Int} {v : V} (h : Sees K W H (.int i) v) : v = .int i := by
  rcases h with h | ⟨a, o, rfl, e, r⟩
  · cases h; rfl
  · cases r
theorem Sees.bl {i : Bool} {v : V} (h : Sees K W H (.bl i) v) : v = .bl i := by
  rcases h with h | ⟨a, o, rfl, e, r⟩
  · cases h; rfl
  · cases r
theorem Sees.str {i : Str} {v : V} (h : Sees K W H (.str i) v) : v = .str i := by
  rcases h with h | ⟨a, o, rfl, e, r⟩
  · cases h; rfl
  · cases r
theorem Sees.non {v : V} (h : Sees K W H .non v) : v = .non := by
  rcases h with h | ⟨a, o, rfl, e, r⟩
  · cases h; rfl
  · cases r
theorem Frz.toD {r : SV} {v : V} {d : D} (h : Frz K W H r v) (e : LW.toD r = some d) : Rep K W H d v := by
  cases h with
  | val h => simp [LW.toD] at e; subst e; exact h
  | lis h e' r => simp [LW.toD] at e; subst e; exact r.rep h e'
  | see h e' r => simp [LW.toD] at e
/-! ### the frame -/
def Own (ρ : LW.Env) (σ : St) (a : Addr) : Prop := ∃ (i : Nat) (x : SV) (d : D), ρ[i]? = some (some x) ∧ x.cell = some d ∧ σ[i]? = some (some (.ref a))
structure R (K : PySem.W.Frag) (W : Addr → Prop) (ρ : LW.Env) (σ : St) (H : Hp) : Prop where
  val : ∀ (i : Nat) (d : D), ρ[i]? = some (some (.val d)) → ∃ v, σ[i]? = some (some v) ∧ Rep K W H d v
  nol : ∀ (i : Nat) (d : D), ρ[i]? ≠ some (some (.obj false d))
  own : ∀ (i : Nat) (x : SV) (d : D), ρ[i]? = some (some x) → x.cell = some d → ∃ a o, σ[i]? = some (some (.ref a)) ∧ W a ∧ H a = some o ∧ ORep K W H d o
  inj : ∀ (i j : Nat) (x y : SV) (d e : D) (a : Addr), ρ[i]? = some (some x) → ρ[j]? = some (some y) → x.cell = some d → y.cell = some e → σ[i]? = some (some (.ref a)) → σ[j]? = some (some (.ref a)) → i = j
  wf : Wf W H
  len : ρ.length = σ.length
theorem R.ownW {ρ : LW.Env} {σ : St} (r : R K W ρ σ H) {a : Addr} (o : Own ρ σ a) : W a ∧ ∃ o d, H a = some o ∧ ORep K W H d o := by
  obtain ⟨i, x, d, h1, h2, h3⟩ := o
  obtain ⟨b, o, e, w, q, z⟩ := r.own i x d h1 h2
  rw [h3] at e; cases e
  exact ⟨w, o, d, q, z⟩
theorem R.same {ρ : LW.Env} {σ : St} (r : R K W ρ σ H) (s : Same H H') : R K W ρ σ H' := by
  refine ⟨fun i d h => ?_, r.nol, fun i x d h h' => ?_, r.inj, fun a w => ?_, r.len⟩
  · obtain ⟨v, h1, h2⟩ := r.val i d h
    exact ⟨v, h1, h2.ext (.same s)⟩
  · obtain ⟨a, o, h1, h2, h3, h4⟩ := r.own i x d h h'
    exact ⟨a, o, h1, h2, s _ _ h3, h4.ext (.same s)⟩
  · cases e : H a with
    | none => exact absurd e (r.wf a w)
    | some o => rw [s a o e]; exact fun z => nomatch z
theorem R.look {ρ : LW.Env} {σ : St} (r : R K W ρ σ H) {i : Nat} {x : SV} (h : look ρ i = some x) : ∃ v, σ[i]? = some (some v) ∧ Frz K W H x v ∧ Res K W H H x v := by
  unfold LW.look at h
  split at h
  · rename_i d e
    cases h
    obtain ⟨v, h1, h2⟩ := r.val i d e
    exact ⟨v, h1, .val h2, .val h2⟩
  · rename_i o d e
    cases h
    cases o with
    | false => exact absurd e (r.nol i d)
    | true =>
      obtain ⟨a, o, h1, h2, h3, h4⟩ := r.own i _ d e rfl
      exact ⟨_, h1, .see h2 h3 h4, .see h2 h3 h4⟩
  · rename_i d e
    cases h
    obtain ⟨a, o, h1, h2, h3, h4⟩ := r.own i _ d e rfl
    exact ⟨_, h1, .see h2 h3 h4, .see h2 h3 h4⟩
  · cases h
def isIo (ρ : LW.Env) (i : Nat) : Prop := ∃ d, ρ[i]? = some (some (.io d))
theorem free_io {ρ : LW.Env} {i : Nat} (h : LW.free ρ i = true) : ¬ isIo ρ i := fun ⟨d, e⟩ => by
  unfold LW.free at h; rw [e] at h; cases h
/-- what a statement leaves -/
structure SPost (K : PySem.W.Frag) (W : Addr → Prop) (ρ : LW.Env) (σ : St) (H : Hp) (W' : Addr → Prop) (ρ' : LW.Env) (σ' : St) (H' : Hp) : Prop where
  r : R K W' ρ' σ' H'
  keep : ∀ a o, H a = some o → ¬ Own ρ σ a → H' a = some o
  win : ∀ a, W' a → W a ∨ H a = Option.none
  wout : ∀ a, W a → ¬ Own ρ σ a → W' a ∧ ¬ Own ρ' σ' a
  io : ∀ i, (isIo ρ' i ↔ isIo ρ i) ∧ (isIo ρ i → σ'[i]? = σ[i]?)
theorem SPost.trans {W1 W2 : Addr → Prop} {ρ ρ1 ρ2 : LW.Env} {σ σ1 σ2 : St} {H1 H2 : Hp} (x : SPost K W ρ σ H W1 ρ1 σ1 H1) (y : SPost K W1 ρ1 σ1 H1 W2 ρ2 σ2 H2) (r0 : R K W ρ σ H) : SPost K W ρ σ H W2 ρ2 σ2 H2 := by
  have no1 : ∀ a o, H a = some o → ¬ Own ρ σ a → ¬ Own ρ1 σ1 a := fun a o h n z => by
    rcases x.win a (x.r.ownW z).1 with w | w
    · exact (x.wout a w n).2 z
    · rw [h] at w; cases w
  refine ⟨y.r, fun a o h n => y.keep a o (x.keep a o h n) (no1 a o h n), fun a w => ?_, fun a w n => ?_, fun i => ⟨(y.io i).1.trans (x.io i).1, fun z => ((y.io i).2 ((x.io i).1.mpr z)).trans ((x.io i).2 z)⟩⟩
  · rcases y.win a w with q | q
    · exact x.win a q
    · cases e : H a with
      | none => exact .inr rfl
      | some o =>
        by_cases n : Own ρ σ a
        · exact .inl (r0.ownW n).1
        · rw [x.keep a o e n] at q; cases q
  · obtain ⟨w1, n1⟩ := x.wout a w n
    exact y.wout a w1 n1
theorem SPost.ext {W1 : Addr → Prop} {ρ ρ1 : LW.Env} {σ σ1 : St} {H1 : Hp} (x : SPost K W ρ σ H W1 ρ1 σ1 H1) (r0 : R K W ρ σ H) : Ext W H W1 H1 := by
  refine ⟨fun a o h n => x.keep a o h fun z => n (r0.ownW z).1, fun a xs h => x.keep a _ h fun z => ?_, fun a o u h => x.keep a _ h fun z => ?_, x.win⟩
  · obtain ⟨_, o, d, e, q⟩ := r0.ownW z
    rw [h] at e; cases e; exact q.kind.1 xs rfl
  · obtain ⟨_, o, d, e, q⟩ := r0.ownW z
    rw [h] at e; cases e; exact q.kind.2 _ _ rfl
theorem SPost.same {ρ : LW.Env} {σ : St} (r0 : R K W ρ σ H) (s : Same H H') : SPost K W ρ σ H W ρ σ H' :=
  ⟨r0.same s, fun a o h _ => s a o h, fun a w => .inl w, fun a w n => ⟨w, n⟩, fun _ => ⟨.rfl, fun _ => rfl⟩⟩
end
def IoAt (ρ : LW.Env) (σ : St) (a : Addr) : Prop := ∃ i, isIo ρ i ∧ σ[i]? = some (some (.ref a))
/-- a value is given back -/
inductive Ret (K : PySem.W.Frag) (W : Addr → Prop) (ρ : LW.Env) (σ : St) (W' : Addr → Prop) (H' : Hp) : SV → V → Prop where
  | val {d : D} {v : V} (h : Rep K W' H' d v) : Ret K W ρ σ W' H' (.val d) v
  | new {d : D} {a : Addr} {o : HO} (h : W' a) (n : ¬ (W a ∧ ¬ Own ρ σ a)) (n' : ¬ IoAt ρ σ a) (e : H' a = some o) (r : ORep K W' H' d o) : Ret K W ρ σ W' H' (.obj true d) (.ref a)
/-! ### the readings -/
def tE (K : PySem.W.Frag) (fn : Nat → List D → Option SV) (c : E) : TE := fun σ H Q => ∃ W ρ r, R K W ρ σ H ∧ evE fn c ρ = some r ∧ ∀ v H', Same H H' → Res K W H H' r v → Q v H'
def tV (K : PySem.W.Frag) (fn : Nat → List D → Option SV) (c : E) : TE := fun σ H Q => ∃ W ρ r, R K W ρ σ H ∧ evE fn c ρ = some r ∧ ∀ v H', Same H H' → Frz K W H' r v → Q v H'
def tVs (K : PySem.W.Frag) (fn : Nat → List D → Option SV) (cs : Es) : TA := fun σ H Q => ∃ W ρ rs, R K W ρ σ H ∧ evEs fn cs ρ = some rs ∧ ∀ vs H', Same H H' → Paired (Frz K W H') rs vs → Q vs H'
def tT (K : PySem.W.Frag) (fn : Nat → List D → Option SV) (c : E) : TT := fun σ H Q => ∃ W ρ b, R K W ρ σ H ∧ evT fn c ρ = some b ∧ ∀ H', Same H H' → Q b H'
def FlOk (K : PySem.W.Frag) (W : Addr → Prop) (ρ : LW.Env) (σ : St) (W' : Addr → Prop) (ρ' : LW.Env) (σ' : St) (H' : Hp) (D : Ends) : Fl → Prop
  | .nx => D.nx σ' H'
  | .br => D.bk σ' H'
  | .ct => D.ct σ' H'
  | .rt r => ∀ v, Ret K W ρ σ W' H' r v → D.rt v H'
def tSs (K : PySem.W.Frag) (ex : LW.Env → Option (Fl × LW.Env)) : TS := fun D σ H => ∃ W ρ x, R K W ρ σ H ∧ ex ρ = some x ∧ ∀ W' σ' H', SPost K W ρ σ H W' x.2 σ' H' → FlOk K W ρ σ W' x.2 σ' H' D x.1
theorem _root_.L2.PE.imp {X : Cx} {e : Expr} {t t' : TE} (h : PE X e t) (i : ∀ σ H Q, t' σ H Q → t σ H Q) : PE X e t' := fun pins s σ H Q I q => h pins s σ H Q I (i σ H Q q)
theorem _root_.L2.PT.imp {X : Cx} {e : Expr} {t t' : TT} (h : PT X e t) (i : ∀ σ H Q, t' σ H Q → t σ H Q) : PT X e t' := fun pins s σ H Q I q => h pins s σ H Q I (i σ H Q q)
theorem _root_.L2.PW.imp {X : Cx} {e : Expr} {t t' : TT} (h : PW X e t) (i : ∀ σ H Q, t' σ H Q → t σ H Q) : PW X e t' := fun wh pins s σ H Q I q => h wh pins s σ H Q I (i σ H Q q)
theorem _root_.L2.PA.imp {X : Cx} {e : List Expr} {t t' : TA} (h : PA X e t) (i : ∀ σ H Q, t' σ H Q → t σ H Q) : PA X e t' := fun pos pins s σ H Q I q => h pos pins s σ H Q I (i σ H Q q)
theorem _root_.L2.PS.imp {X : Cx} {e : Stmt} {t t' : TS} (h : PS X e t) (i : ∀ D σ H, t' D σ H → t D σ H) : PS X e t' := fun pins s σ H D I q => h pins s σ H D I (i D σ H q)
theorem _root_.L2.PSs.imp {X : Cx} {e : List Stmt} {t t' : TS} (h : PSs X e t) (i : ∀ D σ H, t' D σ H → t D σ H) : PSs X e t' := fun pins s σ H D I q => h pins s σ H D I (i D σ H q)
end L2.LW
set_option linter.all false
set_option maxHeartbeats 4000000
namespace L2.LW
open PySem PySem.Spec PyProof.Rows
/-! ### what operations on values give -/
def VR (K : PySem.W.Frag) (f : List D → Option SV) (vs : List V) (H : Hp) (Q : VK) : Prop :=
  ∃ W ds r, Wf W H ∧ Paired (Sees K W H) ds vs ∧ f ds = some r ∧ ∀ v H', Same H H' → Res K W H H' r v → Q v H'
def VR2 (K : PySem.W.Frag) (f : List D → Option SV) : R2 := fun x y H Q => VR K f [x, y] H Q
theorem pr1 {α β : Type} {F : α → β → Prop} {ds : List α} {x : β} (h : Paired F ds [x]) : ∃ d, ds = [d] ∧ F d x := by
  cases h with
  | cons h t => cases t; exact ⟨_, rfl, h⟩
theorem pr2 {α β : Type} {F : α → β → Prop} {ds : List α} {x y : β} (h : Paired F ds [x, y]) : ∃ d e, ds = [d, e] ∧ F d x ∧ F e y := by
  cases h with
  | cons h t =>
    obtain ⟨e, rfl, h2⟩ := pr1 t
    exact ⟨_, e, rfl, h, h2⟩
mutual
def toPy : D → PyData
  | .int i => .int i
  | .bl b => .bool b
  | .non => .none
  | .str x => .str x
  | .tup l => .tuple (toPys l)
  | .lst l => .list (toPys l)
  | .dct _ _ _ => .dict []
def toPys : List D → List PyData
  | [] => []
  | x :: xs => toPy x :: toPys xs
end
mutual
theorem eqv_toPy : ∀ d e : D, PyData.eqv (toPy d) (toPy e) = eqD d e
  | .int a, e => by cases e <;> simp [toPy, PyData.eqv, eqD]
  | .bl a, e => by cases e <;> simp [toPy, PyData.eqv, eqD]
  | .non, e => by cases e <;> simp [toPy, PyData.eqv, eqD]
  | .str a, e => by cases e <;> simp [toPy, PyData.eqv, eqD]
  | .tup l, e => by
    cases e with
    | tup m => simp only [toPy, PyData.eqv, eqD]; exact eqvs_toPys l m
    | _ => simp [toPy, PyData.eqv, eqD]
  | .lst l, e => by
    cases e with
    | lst m => simp only [toPy, PyData.eqv, eqD]; exact eqvs_toPys l m
    | _ => simp [toPy, PyData.eqv, eqD]
  | .dct t a b, e => by cases e <;> simp [toPy, PyData.eqv, eqD]
theorem eqvs_toPys : ∀ ds es : List D, PyData.eqvAll (toPys ds) (toPys es) = eqDs ds es
  | [], [] => by simp [toPys, PyData.eqvAll, eqDs]
  | [], _ :: _ => by simp [toPys, PyData.eqvAll, eqDs]
  | _ :: _, [] => by simp [toPys, PyData.eqvAll, eqDs]
  | x :: xs, y :: ys => by simp only [toPys, PyData.eqvAll, eqDs]; rw [eqv_toPy x y, eqvs_toPys xs ys]
end
theorem lay_all {n : Nat} (ih : ∀ d, shal n d = true → (toPy d).canLay0 = true ∧ (toPy d).depth ≤ n) : ∀ l : List D, l.all (shal n) = true → PyData.canLayAll0 (toPys l) = true ∧ PyData.depthAll (toPys l) ≤ n
  | [], _ => by simp [toPys, PyData.canLayAll0, PyData.depthAll]
  | x :: xs, h => by
    simp only [List.all_cons, Bool.and_eq_true] at h
    obtain ⟨h1, h2⟩ := ih x h.1
    obtain ⟨h3, h4⟩ := lay_all ih xs h.2
    refine ⟨by simp [toPys, PyData.canLayAll0, h1, h3], ?_⟩
    simp only [toPys, PyData.depthAll]
    omega
theorem lay_toPy : ∀ (n : Nat) (d : D), shal n d = true → (toPy d).canLay0 = true ∧ (toPy d).depth ≤ n
  | _, .int _, _ => by simp [toPy, PyData.canLay0, PyData.depth]
  | _, .bl _, _ => by simp [toPy, PyData.canLay0, PyData.depth]
  | _, .non, _ => by simp [toPy, PyData.canLay0, PyData.depth]
  | _, .str _, h => by simp [shal] at h
  | 0, .dct _ _ _, h => by simp [shal] at h
  | _ + 1, .dct _ _ _, h => by simp [shal] at h
  | 0, .tup _, h => by simp [shal] at h
  | 0, .lst _, h => by simp [shal] at h
  | n + 1, .tup l, h => by
    obtain ⟨h1, h2⟩ := lay_all (lay_toPy n) l (by simpa [shal] using h)
    exact ⟨by simpa [toPy, PyData.canLay0] using h1, by simp only [toPy, PyData.depth]; omega⟩
  | n + 1, .lst l, h => by
    obtain ⟨h1, h2⟩ := lay_all (lay_toPy n) l (by simpa [shal] using h)
    exact ⟨by simpa [toPy, PyData.canLay0] using h1, by simp only [toPy, PyData.depth]; omega⟩
theorem any_toPys (d : D) : ∀ l : List D, ((toPys l).any fun y => PyData.eqv y (toPy d)) = l.any fun y => eqD y d
  | [] => by simp [toPys]
  | x :: xs => by simp only [toPys, List.any_cons]; rw [eqv_toPy x d, any_toPys d xs]
section
variable {X : Cx} {pins : List (Addr × Obj)} {σ : St} {H : Hp} {s : Shared} {W : Addr → Prop}
mutual
theorem Rep.reads (I : Inv X pins σ H s) : ∀ {n : Nat} {d : D} {x : V} {v : Value}, shal n d = true → Rep X.K W H d x → RelV x v → ∃ as, Reads s.heap v (toPy d) as
  | _, _, _, _, _, .int i, r => by obtain ⟨t, rfl⟩ := r; exact ⟨_, .int _ _⟩
  | _, _, _, _, _, .bl b, r => by cases r; exact ⟨_, .bool _⟩
  | _, _, _, _, _, .non, r => by cases r; exact ⟨_, .none⟩
  | _, _, _, _, _, .str x, r => by obtain ⟨t, rfl⟩ := r; exact ⟨_, .str _ _⟩
  | 0, _, _, _, n, .tup h rs, r => by simp [shal] at n
  | 0, _, _, _, n, .lst h rs, r => by simp [shal] at n
  | _ + 1, _, _, _, n, .tup h rs, r => by
    cases r
    obtain ⟨its, rv, ⟨o, ho, hc, m, hd⟩, hz⟩ := I.tuple (.of h)
    obtain ⟨as, q⟩ := Reps.reads I (by simpa [shal] using n) rs rv
    exact ⟨as, by simp only [toPy]; exact .tuple ho hc hd (by simpa using q)⟩
  | _ + 1, _, _, _, n, .lst h rs, r => by
    cases r
    obtain ⟨its, rv, ⟨o, m, ho, hc, _, hd⟩, hz⟩ := I.list (show SqL X.K H _ _ from h.elim (fun z => .inl z.2) fun z => .inr z)
    obtain ⟨as, q⟩ := Reps.reads I (by simpa [shal] using n) rs rv
    exact ⟨_, by simp only [toPy]; exact .list ho hc hd (by simpa using q)⟩
  | 0, _, _, _, n, .dK _ _ _ _, r => by simp [shal] at n
  | 0, _, _, _, n, .dT _ _ _ _, r => by simp [shal] at n
  | _ + 1, _, _, _, n, .dK _ _ _ _, r => by simp [shal] at n
  | _ + 1, _, _, _, n, .dT _ _ _ _, r => by simp [shal] at n
theorem Reps.reads (I : Inv X pins σ H s) : ∀ {n : Nat} {ds : List D} {xs : List V} {vs : List Value}, ds.all (shal n) = true → Reps X.K W H ds xs → Vals xs vs → ∃ as, ReadsAll s.heap vs (toPys ds) as
  | _, _, _, _, _, .nil, r => by cases r; exact ⟨_, by simp only [toPys]; exact .nil⟩
  | _, _, _, _, n, .cons h t, r => by
    cases r with
    | cons r1 r2 =>
      simp only [List.all_cons, Bool.and_eq_true] at n
      obtain ⟨as, q1⟩ := Rep.reads I n.1 h r1
      obtain ⟨bs, q2⟩ := Reps.reads I n.2 t r2
      exact ⟨_, by simp only [toPys]; exact .cons q1 q2⟩
end
theorem Sees.reads (I : Inv X pins σ H s) {n : Nat} {d : D} {x : V} {v : Value} (hn : shal n d = true) (h : Sees X.K W H d x) (r : RelV x v) : ∃ as, Reads s.heap v (toPy d) as := by
  rcases h with h | ⟨a, o, rfl, e, rs⟩
  · exact h.reads I hn r
  · cases r
    cases rs with
    | lst rs =>
      obtain ⟨its, rv, ⟨o, m, ho, hc, _, hd⟩, hz⟩ := I.list (show SqL X.K H _ _ from .of e)
      cases n with
      | zero => simp [shal] at hn
      | succ n =>
        obtain ⟨as, q⟩ := rs.reads I (n := n) (by simpa [shal] using hn) rv
        exact ⟨_, by simp only [toPy]; exact .list ho hc hd (by simpa using q)⟩
    | dK l r => cases n <;> simp [shal] at hn
    | dT l r => cases n <;> simp [shal] at hn
theorem Sees.readsL (I : Inv X pins σ H s) {n : Nat} {l : List D} {x : V} {v : Value} (hn : l.all (shal n) = true) (h : Sees X.K W H (.lst l) x) (r : RelV x v) : ∃ as, Reads s.heap v (toPy (.lst l)) as :=
  h.reads I (n := n + 1) (by simpa [shal] using hn) r
theorem Sees.readsT (I : Inv X pins σ H s) {n : Nat} {l : List D} {x : V} {v : Value} (hn : l.all (shal n) = true) (h : Sees X.K W H (.tup l) x) (r : RelV x v) : ∃ as, Reads s.heap v (toPy (.tup l)) as :=
  h.reads I (n := n + 1) (by simpa [shal] using hn) r
end
theorem same_upd {H : Hp} {p : Addr} (h : H p = Option.none) (o : HO) : Same H (upd H p o) := fun b u q => by rw [upd_ne (ne_of_none q h)]; exact q
/-- a new list -/
theorem res_new {K : PySem.W.Frag} {W : Addr → Prop} {H : Hp} {p : Addr} {ds : List D} {xs : List V} (hp : H p = Option.none) (r : Reps K W H ds xs) : Res K W H (upd H p (.lst xs)) (.lis true ds) (.ref p) := by
  refine .new hp upd_same (.lst (r.ext ⟨fun a o h _ => same_upd hp _ a o h, fun a xs h => same_upd hp _ a _ h, fun a o u h => same_upd hp _ a _ h, fun a w => ?_⟩))
  rcases w with w | rfl
  · exact .inl w
  · exact .inr hp
theorem res_tup {K : PySem.W.Frag} {W : Addr → Prop} {H : Hp} {p : Addr} {ds : List D} {xs : List V} (hp : H p = Option.none) (r : Reps K W H ds xs) : Res K W H (upd H p (.tup xs)) (.val (.tup ds)) (.ref p) :=
  .val (.tup upd_same (r.ext (.same (same_upd hp _))))
section
variable {X : Cx}
theorem line_eq : line = sizeLine := by rw [sizeLine_eq]; rfl
/-! ### dicts and their keys -/
theorem ints_is : ∀ {l : List D} {ns : List Int}, ints? l = some ns → l = ns.map D.int
  | [], ns, e => by simp [ints?] at e; subst e; rfl
  | d :: r, ns, e => by
    cases d with
    | int i =>
      simp only [ints?, Option.map_eq_some_iff] at e
      obtain ⟨ms, e1, rfl⟩ := e
      rw [ints_is e1]; rfl
    | _ => simp [ints?] at e
theorem keys_kV (ns : List Int) : (ns.map Sum.inl).map kV = ns.map V.int := by
  rw [List.map_map]; rfl
theorem eqDs_ints : ∀ (a b : List Int), eqDs (a.map D.int) (b.map D.int) = decide (a = b)
  | [], [] => by simp [eqDs]
  | [], _ :: _ => by simp [eqDs]
  | _ :: _, [] => by simp [eqDs]
  | x :: xs, y :: ys => by
    rw [Bool.eq_iff_iff]
    simp [eqDs, eqD, eqDs_ints xs ys]
theorem inls_inj {a b : List Int} (h : (a.map Sum.inl : List Key) = b.map Sum.inl) : a = b := (List.map_inj_right (fun _ _ z => Sum.inl.inj z)).mp h
theorem kix_cons (k d : D) (ks : List D) : kix (d :: ks) k = if eqD d k then some 0 else (kix ks k).map (· + 1) := by
  unfold kix; rw [List.findIdx?_cons]
theorem dK_val : ∀ {ns : List Int} {ys : List V}, ns.length = ys.length → ∀ i : Int, valV (dKof ns ys) (.inl i) = (kix (ns.map D.int) (.int i)).bind fun j => ys[j]?
  | [], [], _, i => rfl
  | n :: ns, y :: ys, h, i => by
    have ih := dK_val (ns := ns) (ys := ys) (by simpa using h) i
    show valV ((Sum.inl n, y) :: dKof ns ys) (.inl i) = _
    rw [List.map_cons, kix_cons]
    by_cases e : n = i
    · rw [valV_pos (by simp [e])]; simp [eqD, e]
    · rw [valV_neg (by simp [e]), ih]
      have : eqD (.int n) (.int i) = false := by simp [eqD, e]
      rw [this]
      cases kix (ns.map D.int) (.int i) <;> simp
theorem dT_val : ∀ {ns : List (List Int)} {ys : List V}, ns.length = ys.length → ∀ i : List Int, valV (dTof ns ys) (i.map Sum.inl) = (kix (ns.map kT) (kT i)).bind fun j => ys[j]?
  | [], [], _, i => rfl
  | n :: ns, y :: ys, h, i => by
    have ih := dT_val (ns := ns) (ys := ys) (by simpa using h) i
    show valV ((n.map Sum.inl, y) :: dTof ns ys) (i.map Sum.inl) = _
    rw [List.map_cons, kix_cons]
    by_cases e : n = i
    · rw [valV_pos (by simp [e])]
      have : eqD (kT n) (kT i) = true := by simp [kT, eqD, eqDs_ints, e]
      rw [this]; rfl
    · rw [valV_neg (fun z => e (inls_inj z)), ih]
      have : eqD (kT n) (kT i) = false := by simp [kT, eqD, eqDs_ints, e]
      rw [this]
      cases kix (ns.map kT) (kT i) <;> simp
theorem kix_lt {ks : List D} {k : D} {j : Nat} (h : kix ks k = some j) : j < ks.length := by
  unfold kix at h
  obtain ⟨h1, _⟩ := List.findIdx?_eq_some_iff_getElem.mp h
  exact h1
theorem dK_some {ns : List Int} {ys : List V} (h : ns.length = ys.length) {i : Int} : (valV (dKof ns ys) (.inl i)).isSome = (kix (ns.map D.int) (.int i)).isSome := by
  rw [dK_val h]
  cases e : kix (ns.map D.int) (.int i) with
  | none => rfl
  | some j => have := kix_lt e; simp at this; simp; omega
theorem dT_some {ns : List (List Int)} {ys : List V} (h : ns.length = ys.length) {i : List Int} : (valV (dTof ns ys) (i.map Sum.inl)).isSome = (kix (ns.map kT) (kT i)).isSome := by
  rw [dT_val h]
  cases e : kix (ns.map kT) (kT i) with
  | none => rfl
  | some j => have := kix_lt e; simp at this; simp; omega
theorem dK_at {K : PySem.W.Frag} {W : Addr → Prop} {H : Hp} {ns : List Int} {ys : List V} {vs : List D} {i : Int} {d : D} (h : ns.length = ys.length) (r : Reps K W H vs ys) (e : dget (ns.map D.int) vs (.int i) = some d) : ∃ y, valV (dKof ns ys) (.inl i) = some y ∧ Rep K W H d y := by
  unfold dget at e
  rw [Option.bind_eq_some_iff] at e
  obtain ⟨j, e1, e2⟩ := e
  obtain ⟨y, e3, e4⟩ := r.get e2
  exact ⟨y, by rw [dK_val h, e1]; exact e3, e4⟩
theorem dT_at {K : PySem.W.Frag} {W : Addr → Prop} {H : Hp} {ns : List (List Int)} {ys : List V} {vs : List D} {i : List Int} {d : D} (h : ns.length = ys.length) (r : Reps K W H vs ys) (e : dget (ns.map kT) vs (kT i) = some d) : ∃ y, valV (dTof ns ys) (i.map Sum.inl) = some y ∧ Rep K W H d y := by
  unfold dget at e
  rw [Option.bind_eq_some_iff] at e
  obtain ⟨j, e1, e2⟩ := e
  obtain ⟨y, e3, e4⟩ := r.get e2
  exact ⟨y, by rw [dT_val h, e1]; exact e3, e4⟩
theorem vr_add : OpR X (binaryOp .Add) (VR2 X.K (primD .add)) := by
  rintro pins s σ H x y v u Q I rx ry ⟨W, ds, r, wf, hs, hf, q⟩
  obtain ⟨d, e, rfl, h1, h2⟩ := pr2 hs
  replace hf : pAdd [d, e] = some r := hf
  unfold pAdd at hf
  split at hf
  · rename_i a b z; cases z; cases hf
    cases h1.int; cases h2.int
    exact op_add pins s σ H _ _ v u Q I rx ry ⟨_, _, rfl, rfl, q _ H (.refl H) (.val (.int _))⟩
  · rename_i a b z; cases z
    split at hf
    · rename_i hl
      cases hf
      obtain ⟨p, xs, rfl, hp, rp⟩ := h1.lst
      obtain ⟨p2, xs2, rfl, hp2, rp2⟩ := h2.lst
      cases rx; cases ry
      obtain ⟨its, rv, ⟨⟨c1, d1, da1, sl1⟩, n, ho, hc, hdd, hd⟩, hz⟩ := I.list hp
      obtain ⟨its2, rv2, ⟨⟨c2, d2, da2, sl2⟩, n2, ho2, hc2, hdd2, hd2⟩, hz2⟩ := I.list hp2
      simp only at hc hd hdd hc2 hd2 hdd2
      subst hc hd hdd hc2 hd2 hdd2
      have l1 := rv.length
      have l2 := rv2.length
      have l3 := rp.length
      have l4 := rp2.length
      have le := line_eq
      refine concat_meets ⟨_, ho, rfl⟩ ⟨_, ho2, rfl⟩ noFill_list_add seq_list_add PySem.F.slot_list_add PySem.F.entry_list_add (PySem.F.args_list_add_2 _ _) (list_addW p p2 its.toArray its2.toArray n n2 Option.none Option.none sl1 sl2 (by simp; omega)) ⟨ho, ho2, ?_⟩
      have e : its.toArray ++ its2.toArray = (its ++ its2).toArray := by simp
      rw [e]
      exact ⟨.ref _, _, I.lnew (t' := s.toks) (rv.append rv2) (by rw [List.length_append]; omega), rfl, q _ _ (same_upd I.fresh _) (res_new I.fresh (rp.append rp2))⟩
    · cases hf
  · cases hf
theorem vr_sub : OpR X (binaryOp .Sub) (VR2 X.K (primD .sub)) := by
  rintro pins s σ H x y v u Q I rx ry ⟨W, ds, r, wf, hs, hf, q⟩
  obtain ⟨d, e, rfl, h1, h2⟩ := pr2 hs
  replace hf : pSub [d, e] = some r := hf
  unfold pSub at hf
  split at hf
  · rename_i a b z; cases z; cases hf
    cases h1.int; cases h2.int
    exact op_sub pins s σ H _ _ v u Q I rx ry ⟨_, _, rfl, rfl, q _ H (.refl H) (.val (.int _))⟩
  · cases hf
theorem vr_mul : OpR X (binaryOp .Mult) (VR2 X.K (primD .mul)) := by
  rintro pins s σ H x y v u Q I rx ry ⟨W, ds, r, wf, hs, hf, q⟩
  obtain ⟨d, e, rfl, h1, h2⟩ := pr2 hs
  replace hf : pMul [d, e] = some r := hf
  unfold pMul at hf
  split at hf
  · rename_i a b z; cases z
    split at hf
    · rename_i hc
      cases hf
      cases h1.int; cases h2.int
      exact op_mul pins s σ H _ _ v u Q I rx ry ⟨_, _, rfl, rfl, hc, q _ H (.refl H) (.val (.int _))⟩
    · cases hf
  · cases hf
theorem vr_mod : OpR X (binaryOp .Mod) (VR2 X.K (primD .mod)) := by
  rintro pins s σ H x y v u Q I rx ry ⟨W, ds, r, wf, hs, hf, q⟩
  obtain ⟨d, e, rfl, h1, h2⟩ := pr2 hs
  replace hf : pMod [d, e] = some r := hf
  unfold pMod at hf
  split at hf
  · rename_i a b z; cases z
    split at hf
    · rename_i hc
      cases hf
      cases h1.int; cases h2.int
      exact op_mod pins s σ H _ _ v u Q I rx ry ⟨_, _, rfl, rfl, hc, q _ H (.refl H) (.val (.int _))⟩
    · cases hf
  · cases hf
theorem room8 {A : Around} (hu : A.units + 64 < cLine) {d e : D} (h : shal 8 d = true) : A.units + min (toPy d).depth (toPy e).depth < cLine := by
  have h1 := (lay_toPy 8 d h).2
  have h2 : min (toPy d).depth (toPy e).depth ≤ (toPy d).depth := Nat.min_le_left _ _
  omega
theorem vr_eq (hu : X.A.units + 64 < cLine) : OpR X (compareOp .Eq) (VR2 X.K (primD .eq)) := by
  rintro pins s σ H x y v u Q I rx ry ⟨W, ds, r, wf, hs, hf, q⟩
  obtain ⟨d, e, rfl, h1, h2⟩ := pr2 hs
  replace hf : pEq [d, e] = some r := hf
  simp only [pEq] at hf
  split at hf
  · rename_i hc
    rw [Bool.and_eq_true] at hc
    cases hf
    obtain ⟨as, ra⟩ := h1.reads I hc.1 rx
    obtain ⟨bs, rb⟩ := h2.reads I hc.2 ry
    refine SeqAt.compareEq_reads ra rb (lay_toPy 8 d hc.1).1 (lay_toPy 8 e hc.2).1 (room8 hu hc.1) ?_
    rw [eqv_toPy]
    exact ⟨.bl _, H, I, rfl, q _ H (.refl H) (.val (.bl _))⟩
  · cases hf
theorem room9 {A : Around} (hu : A.units + 64 < cLine) {d : D} {l : List PyData} (h : shal 8 d = true) : A.units + 1 + min (PyData.depthAll l) (toPy d).depth < cLine := by
  have h1 := (lay_toPy 8 d h).2
  have h2 : min (PyData.depthAll l) (toPy d).depth ≤ (toPy d).depth := Nat.min_le_right _ _
  omega
theorem vr_nin (hu : X.A.units + 64 < cLine) : OpR X (compareOp .NotIn) (VR2 X.K (primD .nin)) := by
  rintro pins s σ H x y v u Q I rx ry ⟨W, ds, r, wf, hs, hf, q⟩
  obtain ⟨d, e, rfl, h1, h2⟩ := pr2 hs
  replace hf : pNin [d, e] = some r := hf
  unfold pNin at hf
  split at hf
  · rename_i x t ks vs z; cases z
    split at hf
    · rename_i hk
      cases hf
      cases t with
      | false =>
        cases d with
        | int i =>
          cases h1.int
          obtain ⟨a, ns, ys, rfl, rfl, hH, hl, _⟩ := h2.dK
          cases ry
          exact d_notIn (by omega) I (DGet.k (k := .inl i) hH) rx fun s' I' => ⟨.bl _, H, I', rfl, q _ H (.refl H) (.val (by rw [dK_some hl]; exact .bl _))⟩
        | _ => simp [isKey] at hk
      | true =>
        cases d with
        | tup l =>
          obtain ⟨ms, hms⟩ : ∃ ms, ints? l = some ms := by simp only [isKey, Option.isSome_iff_exists] at hk; exact hk
          obtain ⟨b, xs, rfl, hb, rp⟩ := h1.tupH
          obtain ⟨a, ns, ys, rfl, rfl, hH, hl, _⟩ := h2.dT
          cases ry
          have e1 := rp.ofInts hms
          have e2 := ints_is hms
          subst e1 e2
          exact d_notIn (by omega) I (DGet.t (k := ms.map Sum.inl) hH (by rw [hb, keys_kV])) rx fun s' I' => ⟨.bl _, H, I', rfl, q _ H (.refl H) (.val (by rw [dT_some hl]; exact .bl _))⟩
        | _ => simp [isKey] at hk
    · cases hf
  · rename_i d l z; cases z
    split at hf
    · rename_i hc
      rw [Bool.and_eq_true] at hc
      cases hf
      obtain ⟨as, ra⟩ := h1.reads I hc.1 rx
      obtain ⟨bs, rb⟩ := h2.readsT I hc.2 ry
      simp only [toPy] at rb
      refine SeqAt.notIn_tuple_reads rb ra (lay_all (lay_toPy 8) l hc.2).1 (lay_toPy 8 d hc.1).1 (room9 hu hc.1) ?_
      rw [any_toPys]
      exact ⟨.bl _, H, I, rfl, q _ H (.refl H) (.val (.bl _))⟩
    · cases hf
  · rename_i d l z; cases z
    split at hf
    · rename_i hc
      rw [Bool.and_eq_true] at hc
      cases hf
      obtain ⟨as, ra⟩ := h1.reads I hc.1 rx
      obtain ⟨bs, rb⟩ := h2.readsL I hc.2 ry
      simp only [toPy] at rb
      refine SeqAt.notIn_list_reads rb ra (lay_all (lay_toPy 8) l hc.2).1 (lay_toPy 8 d hc.1).1 (room9 hu hc.1) ?_
      rw [any_toPys]
      exact ⟨.bl _, H, I, rfl, q _ H (.refl H) (.val (.bl _))⟩
    · cases hf
  · cases hf
theorem lexLt_eq : ∀ x y : List Int, LW.lexLt x y = HT.lexLt x y
  | [], [] => rfl
  | [], _ :: _ => rfl
  | _ :: _, [] => rfl
  | a :: x, b :: y => by rw [HT.lexLt_cons, LW.lexLt, lexLt_eq x y]
theorem vr_lt (hu : X.A.units + 64 < cLine) : OpR X (compareOp .Lt) (VR2 X.K (primD .lt)) := by
  rintro pins s σ H x y v u Q I rx ry ⟨W, ds, r, wf, hs, hf, q⟩
  obtain ⟨d, e, rfl, h1, h2⟩ := pr2 hs
  replace hf : pLt [d, e] = some r := hf
  unfold pLt at hf
  split at hf
  · rename_i a b z; cases z; cases hf
    cases h1.int; cases h2.int
    exact op_lt pins s σ H _ _ v u Q I rx ry ⟨_, _, rfl, rfl, q _ H (.refl H) (.val (.bl _))⟩
  · rename_i a b z; cases z
    simp only [Option.bind_eq_some_iff] at hf
    obtain ⟨ns, e1, ms, e2, hf⟩ := hf
    cases hf
    obtain ⟨p, xs, rfl, hp, rp⟩ := h1.tup
    obtain ⟨p2, xs2, rfl, hp2, rp2⟩ := h2.tup
    rw [rp.ofInts e1] at hp
    rw [rp2.ofInts e2] at hp2
    refine op_ltT (by omega) pins s σ H _ _ v u Q I rx ry ⟨_, _, ns, ms, rfl, rfl, hp, hp2, ?_⟩
    rw [← lexLt_eq]
    exact q _ H (.refl H) (.val (.bl _))
  · cases hf
theorem vr_le : OpR X (compareOp .LtE) (VR2 X.K (primD .le)) := by
  rintro pins s σ H x y v u Q I rx ry ⟨W, ds, r, wf, hs, hf, q⟩
  obtain ⟨d, e, rfl, h1, h2⟩ := pr2 hs
  replace hf : pLe [d, e] = some r := hf
  unfold pLe at hf
  split at hf
  · rename_i a b z; cases z; cases hf
    cases h1.int; cases h2.int
    exact op_le pins s σ H _ _ v u Q I rx ry ⟨_, _, rfl, rfl, q _ H (.refl H) (.val (.bl _))⟩
  · cases hf
theorem vr_gt : OpR X (compareOp .Gt) (VR2 X.K (primD .gt)) := by
  rintro pins s σ H x y v u Q I rx ry ⟨W, ds, r, wf, hs, hf, q⟩
  obtain ⟨d, e, rfl, h1, h2⟩ := pr2 hs
  replace hf : pGt [d, e] = some r := hf
  unfold pGt at hf
  split at hf
  · rename_i a b z; cases z; cases hf
    cases h1.int; cases h2.int
    exact op_gt pins s σ H _ _ v u Q I rx ry ⟨_, _, rfl, rfl, q _ H (.refl H) (.val (.bl _))⟩
  · cases hf
theorem reps_at {K : PySem.W.Frag} {W : Addr → Prop} {H : Hp} {ds : List D} {xs : List V} {i : Int} {d : D} (r : Reps K W H ds xs) (h : LW.atI ds i = some d) : ∃ x, L2.atI xs i = some x ∧ Rep K W H d x := by
  unfold LW.atI at h
  unfold L2.atI
  rw [Option.bind_eq_some_iff] at h
  obtain ⟨j, h1, h2⟩ := h
  obtain ⟨x, e, q⟩ := r.get h2
  refine ⟨x, ?_, q⟩
  rw [← r.length]
  rw [Option.bind_eq_some_iff]
  exact ⟨j, h1, e⟩
theorem ix_dict {value slice : Expr} {pins : List (Addr × Obj)} {s : Shared} {σ : St} {H : Hp} {a : Addr} {y v : V} {u : Value} {Q : VK} (hu : X.A.units + 64 < cLine) (I : Inv X pins σ H s) (g : DGet H a y (some v)) (ry : RelV y u) (q : Q v H)
    (hs : subscripted slice false (.ref a) u = operate [.ref a, u] (getItem (.ref a) u)) : wpAny (model X.prog X.w) X.A (subscriptTail value slice (.ref a) u) (EP X pins σ Q) X.xe s := by
  have hT := dict_typeIs I g
  unfold subscriptTail
  refine wpAny_bind ?_
  rw [getitemInPython_of_ne hT.not_modules]
  refine wpAny_bind (wpAny_specialOf hT PySem.F.slot_dict_getitem.lookup ?_)
  have fin : wpAny (model X.prog X.w) X.A (subscripted slice false (.ref a) u) (fun r s₃ => wpAny (model X.prog X.w) X.A (letTemporaryGo value (.ref a) r >>= fun _ => pure r) (EP X pins σ Q) X.xe s₃) X.xe s := by
    rw [hs]
    refine wpAny_operating (wpAny_mono (d_getItem (Q := EP X pins σ Q) (by omega) I g ry fun w' s' I' rv => ⟨v, H, I', rv, q⟩) (fun r s₃ h₃ => wpAny_bind (wpAny_letTemporaryGo (wpAny_pure h₃))) fun _ _ x => x)
  first
    | exact wpAny_pure (wpAny_bind fin)
    | exact wpAny_bind (wpAny_pure (wpAny_bind fin))
    | exact wpAny_pure (wpAny_bind (wpAny_pure (wpAny_bind fin)))
    | exact wpAny_bind (wpAny_bind (wpAny_pure fin))
theorem vr_idx (hu : X.A.units + 64 < cLine) : IxR X (VR2 X.K (primD .idx)) := by
  rintro value slice pins s σ H x y v u Q I rx ry ⟨W, ds, r, wf, hs, hf, q⟩ hsub
  obtain ⟨d, e, rfl, h1, h2⟩ := pr2 hs
  replace hf : pIdx [d, e] = some r := hf
  unfold pIdx at hf
  split at hf
  · rename_i t ks vs k z; cases z
    split at hf
    · rename_i hk
      rw [Option.map_eq_some_iff] at hf
      obtain ⟨d', e1, rfl⟩ := hf
      cases t with
      | false =>
        cases e with
        | int i =>
          cases h2.int
          obtain ⟨a, ns, ys, rfl, rfl, hH, hl, rp⟩ := h1.dK
          cases rx
          obtain ⟨y, e2, ry'⟩ := dK_at hl rp e1
          exact ix_dict hu I (by rw [← e2]; exact DGet.k (k := .inl i) hH) ry (q _ H (.refl H) (.val ry')) hsub
        | _ => simp [isKey] at hk
      | true =>
        cases e with
        | tup l =>
          obtain ⟨ms, hms⟩ : ∃ ms, ints? l = some ms := by simp only [isKey, Option.isSome_iff_exists] at hk; exact hk
          obtain ⟨b, xs, rfl, hb, rpb⟩ := h2.tupH
          obtain ⟨a, ns, ys, rfl, rfl, hH, hl, rp⟩ := h1.dT
          cases rx
          have z1 := rpb.ofInts hms
          have z2 := ints_is hms
          subst z1 z2
          obtain ⟨y, e2, ry'⟩ := dT_at hl rp e1
          exact ix_dict hu I (by rw [← e2]; exact DGet.t (k := ms.map Sum.inl) hH (by rw [hb, keys_kV])) ry (q _ H (.refl H) (.val ry')) hsub
        | _ => simp [isKey] at hk
    · cases hf
  · rename_i l i z; cases z
    rw [Option.map_eq_some_iff] at hf
    obtain ⟨d, e1, rfl⟩ := hf
    obtain ⟨p, xs, rfl, hp, rp⟩ := h1.tup
    cases h2.int
    obtain ⟨z, e2, rz⟩ := reps_at rp e1
    exact ix_tup value slice pins s σ H _ _ v u Q I rx ry ⟨p, xs, i, z, rfl, rfl, hp, e2, q _ H (.refl H) (.val rz)⟩ hsub
  · rename_i l i z; cases z
    rw [Option.map_eq_some_iff] at hf
    obtain ⟨d, e1, rfl⟩ := hf
    obtain ⟨p, xs, rfl, hp, rp⟩ := h1.lst
    cases h2.int
    obtain ⟨z, e2, rz⟩ := reps_at rp e1
    exact ix_list value slice pins s σ H _ _ v u Q I rx ry ⟨p, xs, i, z, rfl, rfl, hp, e2, q _ H (.refl H) (.val rz)⟩ hsub
  · cases hf
theorem vr_len : CallR X (.builtin "len") (VR X.K (primD .len)) := by
  rintro pins s σ H xs us Q I rv ⟨W, ds, r, wf, hs, hf, q⟩
  replace hf : pLen ds = some r := hf
  unfold pLen at hf
  split at hf
  · cases hf
    cases hs with
    | cons h1 t =>
      cases t
      obtain ⟨p, ys, rfl, hp, rp⟩ := h1.tup
      refine call_len_seq pins s σ H _ us Q I rv ⟨p, ys, rfl, .inr hp, ?_⟩
      rw [← rp.length]
      exact q _ H (.refl H) (.val (.int _))
  · cases hf
    cases hs with
    | cons h1 t =>
      cases t
      obtain ⟨p, ys, rfl, hp, rp⟩ := h1.lst
      refine call_len_seq pins s σ H _ us Q I rv ⟨p, ys, rfl, .inl hp, ?_⟩
      rw [← rp.length]
      exact q _ H (.refl H) (.val (.int _))
  · cases hf
theorem vr_abs : CallR X (.builtin "abs") (VR X.K (primD .abs)) := by
  rintro pins s σ H xs us Q I rv ⟨W, ds, r, wf, hs, hf, q⟩
  replace hf : pAbs ds = some r := hf
  unfold pAbs at hf
  split at hf
  · cases hf
    cases hs with
    | cons h1 t =>
      cases t
      cases h1.int
      exact call_abs pins s σ H _ us Q I rv ⟨_, rfl, q _ H (.refl H) (.val (.int _))⟩
  · cases hf
theorem vr_min2 (hc : X.calm = true) : CallR X (.builtin "min") (VR X.K (primD .min2)) := by
  rintro pins s σ H xs us Q I rv ⟨W, ds, r, wf, hs, hf, q⟩
  replace hf : pMin2 ds = some r := hf
  unfold pMin2 at hf
  split at hf
  · cases hf
    cases hs with
    | cons h1 t =>
      cases t with
      | cons h2 t =>
        cases t
        cases h1.int; cases h2.int
        exact call_min2 hc pins s σ H _ us Q I rv ⟨_, _, rfl, q _ H (.refl H) (.val (.int _))⟩
  · cases hf
theorem vr_max2 (hc : X.calm = true) : CallR X (.builtin "max") (VR X.K (primD .max2)) := by
  rintro pins s σ H xs us Q I rv ⟨W, ds, r, wf, hs, hf, q⟩
  replace hf : pMax2 ds = some r := hf
  unfold pMax2 at hf
  split at hf
  · cases hf
    cases hs with
    | cons h1 t =>
      cases t with
      | cons h2 t =>
        cases t
        cases h1.int; cases h2.int
        exact call_max2 hc pins s σ H _ us Q I rv ⟨_, _, rfl, q _ H (.refl H) (.val (.int _))⟩
  · cases hf
theorem vr_toList : CallR X (.type "list") (VR X.K (primD .toList)) := by
  rintro pins s σ H xs us Q I rv ⟨W, ds, r, wf, hs, hf, q⟩
  replace hf : pToList ds = some r := hf
  unfold pToList at hf
  split at hf
  · cases hf
    cases hs with
    | cons h1 t =>
      cases t
      obtain ⟨p, ys, rfl, hp, rp⟩ := h1.tup
      exact call_list_of pins s σ H _ us Q I rv ⟨p, ys, rfl, .inr hp, fun l hl => q _ _ (same_upd hl _) (res_new hl rp)⟩
  · cases hf
    cases hs with
    | cons h1 t =>
      cases t
      obtain ⟨p, ys, rfl, hp, rp⟩ := h1.lst
      exact call_list_of pins s σ H _ us Q I rv ⟨p, ys, rfl, .inl hp, fun l hl => q _ _ (same_upd hl _) (res_new hl rp)⟩
  · cases hf
theorem vr_toTup : CallR X (.type "tuple") (VR X.K (primD .toTup)) := by
  rintro pins s σ H xs us Q I rv ⟨W, ds, r, wf, hs, hf, q⟩
  replace hf : pToTup ds = some r := hf
  unfold pToTup at hf
  split at hf
  · cases hf
    cases hs with
    | cons h1 t =>
      cases t
      obtain ⟨p, ys, rfl, hp, rp⟩ := h1.tupH
      exact call_tuple_of pins s σ H _ us Q I rv ⟨p, ys, rfl, .inr ⟨.of hp, q _ H (.refl H) (.val (.tup hp rp))⟩⟩
  · cases hf
    cases hs with
    | cons h1 t =>
      cases t
      obtain ⟨p, ys, rfl, hp, rp⟩ := h1.lst
      exact call_tuple_of pins s σ H _ us Q I rv ⟨p, ys, rfl, .inl ⟨hp, fun l hl => q _ _ (same_upd hl _) (res_tup hl rp)⟩⟩
  · cases hf
end
end L2.LW
set_option linter.all false
set_option maxHeartbeats 4000000
namespace L2.LW
open PySem PySem.Spec PyProof.Rows
/-- boxed, so that nobody unfolds them -/
structure IE (X : Cx) (fn : Nat → List D → Option SV) (e : Expr) (c : E) : Prop where
  h : PE X e (tE X.K fn c)
structure IA (X : Cx) (fn : Nat → List D → Option SV) (es : List Expr) (cs : Es) : Prop where
  h : PA X es (tVs X.K fn cs)
structure IT (X : Cx) (fn : Nat → List D → Option SV) (e : Expr) (c : E) : Prop where
  h : PT X e (tT X.K fn c)
structure IW (X : Cx) (fn : Nat → List D → Option SV) (e : Expr) (c : E) : Prop where
  h : PW X e (tT X.K fn c)
theorem Res.back {K : PySem.W.Frag} {W : Addr → Prop} {H H1 H2 : Hp} {r : SV} {v : V} (h : Res K W H1 H2 r v) (s : Same H H1) : Res K W H H2 r v := by
  cases h with
  | val h => exact .val h
  | new h e r => exact .new (s.free h) e r
  | see h e r => exact .see h e r
theorem R.wf' {K : PySem.W.Frag} {W : Addr → Prop} {ρ : LW.Env} {σ : St} {H H' : Hp} (r : R K W ρ σ H) (s : Same H H') : Wf W H' := (r.same s).wf
theorem frz_sees {K : PySem.W.Frag} {W : Addr → Prop} {H : Hp} : ∀ {rs : List SV} {vs : List V}, Paired (Frz K W H) rs vs → Paired (Sees K W H) (rs.map seeD) vs
  | _, _, .nil => .nil
  | _, _, .cons h t => .cons h.sees (frz_sees t)
theorem frz_toDs {K : PySem.W.Frag} {W : Addr → Prop} {H : Hp} : ∀ {rs : List SV} {vs : List V} {ds : List D}, Paired (Frz K W H) rs vs → toDs rs = some ds → Reps K W H ds vs
  | _, _, _, .nil, e => by simp [toDs] at e; subst e; exact .nil
  | _, _, _, .cons h t, e => by
    simp only [toDs, Option.bind_eq_some_iff, Option.map_eq_some_iff] at e
    obtain ⟨d, e1, ds, e2, rfl⟩ := e
    exact .cons (h.toD e1) (frz_toDs t e2)
/-! ### arguments that are not starred; tests that ask a value's truth -/
section
variable {es : List Expr} {env : PySem.Env}
theorem star_Name {a b} : starEach (.Name a b :: es) env = (false, eval (.Name a b) env) :: starEach es env := rfl
theorem star_Constant {a b c} : starEach (.Constant a b c :: es) env = (false, eval (.Constant a b c) env) :: starEach es env := rfl
theorem star_BinOp {a b c d} : starEach (.BinOp a b c d :: es) env = (false, eval (.BinOp a b c d) env) :: starEach es env := rfl
theorem star_Call {a b c d} : starEach (.Call a b c d :: es) env = (false, eval (.Call a b c d) env) :: starEach es env := rfl
theorem star_Subscript {a b c} : starEach (.Subscript a b c :: es) env = (false, eval (.Subscript a b c) env) :: starEach es env := rfl
theorem star_Tuple {a b c} : starEach (.Tuple a b c :: es) env = (false, eval (.Tuple a b c) env) :: starEach es env := rfl
theorem star_List {a b} : starEach (.List a b :: es) env = (false, eval (.List a b) env) :: starEach es env := rfl
theorem star_ListComp {a b c d} : starEach (.ListComp a b c d :: es) env = (false, eval (.ListComp a b c d) env) :: starEach es env := rfl
theorem sa_nil {pos : Pos} : (backTo pos (starEach [] env)).any (·.1) = false := rfl
theorem sa_cons {pos : Pos} {e : Expr} (h : starEach (e :: es) env = (false, eval e env) :: starEach es env) (t : (backTo pos (starEach es env)).any (·.1) = false) : (backTo pos (starEach (e :: es) env)).any (·.1) = false := by
  rw [h]; simpa [backTo] using t
theorem it_Name {a b} : ∀ whole, isTrue (.Name a b) env whole = (do let v ← whole; standAt (Expr.Name a b).pos; holding [v] (truthy v)) := fun _ => rfl
theorem it_Call {a b c d} : ∀ whole, isTrue (.Call a b c d) env whole = (do let v ← whole; standAt (Expr.Call a b c d).pos; holding [v] (truthy v)) := fun _ => rfl
end
section
variable {X : Cx} {fn : Nat → List D → Option SV} {a b c e : Expr} {ca cb cc ce : E} {es : List Expr} {cs : Es} {pos p : Pos} {x : Str}
theorem IE.v (h : IE X fn e ce) : PE X e (tV X.K fn ce) := h.h.imp fun σ H Q ⟨W, ρ, r, hR, he, q⟩ => ⟨W, ρ, r, hR, he, fun v H' s x => q v H' s (x.frz hR.wf)⟩
theorem i_int {i : Int} {j : Nat} : IE X fn (.Constant (.int i) j pos) (.int i) := .mk <| pe_int.imp fun σ H Q ⟨W, ρ, r, hR, he, q⟩ => by
  simp only [evE] at he; cases he; exact q _ H (.refl H) (.val (.int i))
theorem i_bl {i : Bool} {j : Nat} : IE X fn (.Constant (.bool i) j pos) (.bl i) := .mk <| pe_bl.imp fun σ H Q ⟨W, ρ, r, hR, he, q⟩ => by
  simp only [evE] at he; cases he; exact q _ H (.refl H) (.val (.bl i))
theorem i_non {j : Nat} : IE X fn (.Constant .none j pos) .non := .mk <| pe_non.imp fun σ H Q ⟨W, ρ, r, hR, he, q⟩ => by
  simp only [evE] at he; cases he; exact q _ H (.refl H) (.val .non)
theorem i_var (i : Nat) (hN : X.N[i]? = some x) (hv : Vis X.env.scope x) (hd : (x == ("__debug__" : Str)) = false := by decide) (hcd : (x == ("__classdict__" : Str)) = false := by decide) : IE X fn (.Name x pos) (.var i) :=
  .mk <| (pe_var hN hv hd hcd).imp fun σ H Q ⟨W, ρ, r, hR, he, q⟩ => by
    simp only [evE] at he
    obtain ⟨v, h1, _, h3⟩ := hR.look he
    exact ⟨v, h1, q v H (.refl H) h3⟩
/-- a whole number of the module's top -/
theorem i_globI {i : Int} {t : Tok} (hg : Gl X x) (hm : X.mg x = some (.int i t)) (hd : (x == ("__debug__" : Str)) = false := by decide) : IE X fn (.Name x pos) (.int i) :=
  .mk <| (pe_glob hg hm (v := .int i) ⟨t, rfl⟩ hd).imp fun σ H Q ⟨W, ρ, r, hR, he, q⟩ => by
    simp only [evE] at he; cases he; exact q _ H (.refl H) (.val (.int i))
theorem i_nil : IA X fn [] .nil := .mk <| pa_nil.imp fun σ H Q ⟨W, ρ, rs, hR, he, q⟩ => by
  simp only [evEs] at he; cases he; exact q _ H (.refl H) .nil
theorem i_cons (ha : IE X fn e ce) (hr : IA X fn es cs) (hs : starEach (e :: es) X.env = (false, eval e X.env) :: starEach es X.env := by rfl) : IA X fn (e :: es) (.cons ce cs) :=
  .mk <| (pa_cons ha.v hr.h hs).imp fun σ H Q ⟨W, ρ, rs, hR, he, q⟩ => by
    simp only [evEs, Option.bind_eq_some_iff, Option.map_eq_some_iff] at he
    obtain ⟨r, e1, rs', e2, rfl⟩ := he
    exact ⟨W, ρ, r, hR, e1, fun v H1 s1 f1 => ⟨W, ρ, rs', hR.same s1, e2, fun vs H2 s2 f2 => q _ H2 (s1.trans s2) (.cons (f1.same s2) f2)⟩⟩
/-- the readings of an operation: its arguments, then its rule -/
theorem args_vr {K : PySem.W.Frag} {p : Prim} {W : Addr → Prop} {ρ : LW.Env} {σ : St} {H H1 : Hp} {Q : VK} {rs : List SV} {vs : List V} {r : SV} (hR : R K W ρ σ H) (s1 : Same H H1) (f : Paired (Frz K W H1) rs vs)
    (e : primD p (rs.map seeD) = some r) (q : ∀ v H', Same H H' → Res K W H H' r v → Q v H') : VR K (primD p) vs H1 Q :=
  ⟨W, rs.map seeD, r, hR.wf' s1, frz_sees f, e, fun v H' s2 h => q v H' (s1.trans s2) (h.back s1)⟩
theorem two_vr {K : PySem.W.Frag} {p : Prim} {ρ : LW.Env} {σ : St} {H : Hp} {Q : VK} {W : Addr → Prop} {r : SV} (hR : R K W ρ σ H) (he : evE fn (.prim p (.cons ca (.cons cb .nil))) ρ = some r) (q : ∀ v H', Same H H' → Res K W H H' r v → Q v H') :
    tOp (VR2 K (primD p)) (tV K fn ca) (tV K fn cb) σ H Q := by
  simp only [evE, evEs, Option.bind_eq_some_iff, Option.map_eq_some_iff] at he
  obtain ⟨rs, ⟨r1, e1, rs', ⟨r2, e2, rs'', e3, rfl⟩, rfl⟩, e4⟩ := he
  cases e3
  exact ⟨W, ρ, r1, hR, e1, fun v1 H1 s1 f1 => ⟨W, ρ, r2, hR.same s1, e2, fun v2 H2 s2 f2 => args_vr hR (s1.trans s2) (.cons (f1.same s2) (.cons f2 .nil)) e4 q⟩⟩
theorem i_op {op : Operator} {pr : Prim} (ho : OpR X (binaryOp op) (VR2 X.K (primD pr))) (ha : IE X fn a ca) (hb : IE X fn b cb) : IE X fn (.BinOp a op b pos) (.prim pr (.cons ca (.cons cb .nil))) :=
  .mk <| (pe_op ho ha.v hb.v).imp fun σ H Q ⟨W, ρ, r, hR, he, q⟩ => two_vr hR he q
theorem i_cmp {op : CmpOp} {pr : Prim} (ho : OpR X (compareOp op) (VR2 X.K (primD pr))) (ha : IE X fn a ca) (hb : IE X fn b cb) (hm : behindInMarks op b = false) : IE X fn (.Compare a [op] [b] pos) (.prim pr (.cons ca (.cons cb .nil))) :=
  .mk <| (pe_cmpR ho ha.v hb.v hm).imp fun σ H Q ⟨W, ρ, r, hR, he, q⟩ => two_vr hR he q
theorem i_ix (hu : X.A.units + 64 < cLine) (ha : IE X fn a ca) (hb : IE X fn b cb) (hs : PlainIx b) : IE X fn (.Subscript a b pos) (.prim .idx (.cons ca (.cons cb .nil))) :=
  .mk <| (pe_ix (vr_idx hu) ha.v hb.v hs).imp fun σ H Q ⟨W, ρ, r, hR, he, q⟩ => two_vr hR he q
theorem prim_vr {K : PySem.W.Frag} {pr : Prim} {ρ : LW.Env} {σ : St} {H : Hp} {Q : VK} {W : Addr → Prop} {r : SV} (hR : R K W ρ σ H) (he : evE fn (.prim pr cs) ρ = some r) (q : ∀ v H', Same H H' → Res K W H H' r v → Q v H') :
    tCB (VR K (primD pr)) (tVs K fn cs) σ H Q := by
  simp only [evE, Option.bind_eq_some_iff] at he
  obtain ⟨rs, e1, e2⟩ := he
  exact ⟨W, ρ, rs, hR, e1, fun vs H1 s1 f => args_vr hR s1 f e2 q⟩
theorem i_callB {id : String} {pr : Prim} (hc : CallR X (.builtin id) (VR X.K (primD pr))) (hg : Gl X x) (hm : X.mg x = none) (hv : bootBuiltins x = some (.builtin id)) (ha : IA X fn (e :: es) cs) (hn : x ≠ "__name__" := by decide) (hdb : (x == ("__debug__" : Str)) = false := by decide)
    (he : starEach (e :: es) X.env = (false, eval e X.env) :: starEach es X.env := by rfl) (hpl : (backTo pos (starEach es X.env)).any (·.1) = false := by rfl) : IE X fn (.Call (.Name x p) (e :: es) [] pos) (.prim pr cs) :=
  .mk <| (pe_callB hc hg hm hv ha.h hn hdb he hpl).imp fun σ H Q ⟨W, ρ, r, hR, h, q⟩ => prim_vr hR h q
theorem i_callTy {T : String} {pr : Prim} (hc : CallR X (.type T) (VR X.K (primD pr))) (hg : Gl X x) (hm : X.mg x = none) (hv : bootBuiltins x = some (.type T)) (ha : IA X fn (e :: es) cs) (hn : x ≠ "__name__" := by decide) (hdb : (x == ("__debug__" : Str)) = false := by decide)
    (he : starEach (e :: es) X.env = (false, eval e X.env) :: starEach es X.env := by rfl) (hpl : (backTo pos (starEach es X.env)).any (·.1) = false := by rfl) : IE X fn (.Call (.Name x p) (e :: es) [] pos) (.prim pr cs) :=
  .mk <| (pe_callTy hc hg hm hv ha.h hn hdb he hpl).imp fun σ H Q ⟨W, ρ, r, hR, h, q⟩ => prim_vr hR h q
theorem reps_len {K : PySem.W.Frag} {W : Addr → Prop} {H : Hp} : ∀ {rs : List SV} {ds : List D}, toDs rs = some ds → ds.length = rs.length
  | [], _, e => by simp [toDs] at e; subst e; rfl
  | r :: rs, _, e => by
    simp only [toDs, Option.bind_eq_some_iff, Option.map_eq_some_iff] at e
    obtain ⟨d, e1, ds, e2, rfl⟩ := e
    simp [reps_len (K := K) (W := W) (H := H) e2]
def esLen : Es → Nat
  | .nil => 0
  | .cons _ r => esLen r + 1
theorem evEs_len : ∀ {cs : Es} {ρ : LW.Env} {rs : List SV}, evEs fn cs ρ = some rs → rs.length = esLen cs
  | .nil, _, _, e => by simp only [evEs] at e; cases e; rfl
  | .cons c cs, _, _, e => by
    simp only [evEs, Option.bind_eq_some_iff, Option.map_eq_some_iff] at e
    obtain ⟨r, e1, rs', e2, rfl⟩ := e
    simp [esLen, evEs_len e2]
theorem i_tup {k : Nat} (h : IA X fn es cs) (hl : esLen cs ≤ 1000 := by decide) : IE X fn (.Tuple es k pos) (.tup cs) :=
  .mk <| (pe_tup h.h).imp fun σ H Q ⟨W, ρ, r, hR, he, q⟩ => by
    simp only [evE, Option.bind_eq_some_iff, Option.map_eq_some_iff] at he
    obtain ⟨rs, e1, ds, e2, rfl⟩ := he
    refine ⟨W, ρ, rs, hR, e1, fun vs H1 s1 f => ?_⟩
    have r1 := frz_toDs f e2
    have l1 := r1.length
    have l2 := reps_len (K := X.K) (W := W) (H := H) e2
    have l3 := evEs_len e1
    exact ⟨Nat.le_of_lt (small1000 (by omega)), fun p hp => q _ _ (s1.trans (same_upd hp _)) ((res_tup hp r1).back s1)⟩
theorem i_lst (h : IA X fn es cs) (hl : esLen cs ≤ 1000 := by decide) : IE X fn (.List es pos) (.lst cs) :=
  .mk <| (pe_lst h.h).imp fun σ H Q ⟨W, ρ, r, hR, he, q⟩ => by
    simp only [evE, Option.bind_eq_some_iff, Option.map_eq_some_iff] at he
    obtain ⟨rs, e1, ds, e2, rfl⟩ := he
    refine ⟨W, ρ, rs, hR, e1, fun vs H1 s1 f => ?_⟩
    have r1 := frz_toDs f e2
    have l1 := r1.length
    have l2 := reps_len (K := X.K) (W := W) (H := H) e2
    have l3 := evEs_len e1
    exact ⟨Nat.le_of_lt (small1000 (by omega)), fun p hp => q _ _ (s1.trans (same_upd hp _)) ((res_new hp r1).back s1)⟩
/-! ### and, or, not, if-else as values -/
theorem i_one {op : BoolOp} (h : IE X fn a ca) : IE X fn (.BoolOp op [a] pos) ca := .mk (pe_one h.h)
theorem i_and {rest : List Expr} (ha : IE X fn a ca) (hb : IE X fn (.BoolOp .And (b :: rest) pos) cb) : IE X fn (.BoolOp .And (a :: b :: rest) pos) (.and ca cb) :=
  .mk <| (pe_and ha.h hb.h).imp fun σ H Q ⟨W, ρ, r, hR, he, q⟩ => by
    simp only [evE, Option.bind_eq_some_iff] at he
    obtain ⟨r1, e1, e2⟩ := he
    refine ⟨W, ρ, r1, hR, e1, fun v H1 s1 f => ?_⟩
    split at e2
    · cases f with
      | val h =>
        cases h
        exact ⟨true, rfl, by rw [if_pos rfl]; exact ⟨W, ρ, r, hR.same s1, e2, fun v H2 s2 h => q v H2 (s1.trans s2) (h.back s1)⟩⟩
    · cases f with
      | val h =>
        cases h; cases e2
        exact ⟨false, rfl, by rw [if_neg Bool.false_ne_true]; exact q _ H1 s1 (.val (.bl false))⟩
    · cases e2
/-! ### chains: a op b op' c -/
theorem i_chain {op op' : CmpOp} {p q : Prim} (ho : OpR X (compareOp op) (VR2 X.K (primD p))) (ho' : OpR X (compareOp op') (VR2 X.K (primD q))) (ha : IE X fn a ca) (hb : IE X fn b cb) (hc : IE X fn c cc)
    (hm : lastMarks [op, op'] [b, c] = false := by with_unfolding_all rfl) : IE X fn (.Compare a [op, op'] [b, c] pos) (.chain p q ca cb cc) :=
  .mk <| (pe_chain ho ho' ha.v hb.v hc.v hm).imp fun σ H Q ⟨W, ρ, r, hR, he, hq⟩ => by
    simp only [evE, Option.bind_eq_some_iff] at he
    obtain ⟨r1, e1, r2, e2, z, e3, e4⟩ := he
    refine ⟨W, ρ, r1, hR, e1, fun v1 H1 s1 f1 => ⟨W, ρ, r2, hR.same s1, e2, fun v2 H2 s2 f2 => ?_⟩⟩
    refine ⟨W, _, z, hR.wf' (s1.trans s2), .cons (f1.same s2).sees (.cons f2.sees .nil), e3, fun v H3 s3 h3 => ?_⟩
    split at e4
    · cases h3 with
      | val h3 =>
        cases h3
        simp only [Option.bind_eq_some_iff] at e4
        obtain ⟨r3, e5, e6⟩ := e4
        refine ⟨true, rfl, ?_⟩
        rw [if_pos rfl]
        have s13 := (s1.trans s2).trans s3
        refine ⟨W, ρ, r3, hR.same s13, e5, fun v4 H4 s4 f4 => ?_⟩
        exact ⟨W, _, r, hR.wf' (s13.trans s4), .cons ((f2.same s3).same s4).sees (.cons f4.sees .nil), e6, fun v5 H5 s5 h5 => hq v5 H5 (s13.trans (s4.trans s5)) (h5.back (s13.trans s4))⟩
    · cases h3 with
      | val h3 =>
        cases h3; cases e4
        exact ⟨false, rfl, by rw [if_neg Bool.false_ne_true]; exact hq _ H3 ((s1.trans s2).trans s3) (.val (.bl false))⟩
    · cases e4
/-! ### tests -/
theorem IW.t (h : IW X fn e ce) : IT X fn e ce := .mk (PW.pt h.h)
theorem t_or1 (h : IT X fn a ca) : IW X fn (.BoolOp .Or [a] pos) ca := .mk (pw_or1 h.h)
theorem t_or {rest : List Expr} (ha : IT X fn a ca) (hb : IW X fn (.BoolOp .Or (b :: rest) pos) cb) : IW X fn (.BoolOp .Or (a :: b :: rest) pos) (.or ca cb) :=
  .mk <| (pw_or ha.h hb.h).imp fun σ H Q ⟨W, ρ, k, hR, he, q⟩ => by
    simp only [evT, Option.bind_eq_some_iff] at he
    obtain ⟨k1, e1, e2⟩ := he
    refine ⟨W, ρ, k1, hR, e1, fun H1 s1 => ?_⟩
    cases k1 with
    | true => rw [if_pos rfl] at e2 ⊢; cases e2; exact q H1 s1
    | false => rw [if_neg Bool.false_ne_true] at e2 ⊢; exact ⟨W, ρ, k, hR.same s1, e2, fun H2 s2 => q H2 (s1.trans s2)⟩
theorem t_not (ha : IT X fn a ca) : IT X fn (.UnaryOp .Not a pos) (.not ca) :=
  .mk <| (pt_not ha.h).imp fun σ H Q ⟨W, ρ, k, hR, he, q⟩ => by
    simp only [evT, Option.map_eq_some_iff] at he
    obtain ⟨k1, e1, rfl⟩ := he
    exact ⟨W, ρ, k1, hR, e1, fun H1 s1 => q H1 s1⟩
def boolish : Prim → Bool
  | .eq => true | .ne => true | .lt => true | .le => true | .gt => true | .ge => true | .inn => true | .nin => true | .isN => true | .notN => true
  | _ => false
theorem okBl_is {b : Bool} {r : SV} (h : okBl b = some r) : r = .val (.bl b) := by cases h; rfl
theorem boolish_is {p : Prim} (hp : boolish p = true) {ds : List D} {r : SV} (h : primD p ds = some r) : ∃ b, r = .val (.bl b) := by
  cases p <;> first | cases hp | skip
  all_goals
    simp only [primD] at h
    first | unfold pEq at h | unfold pNe at h | unfold pLt at h | unfold pLe at h | unfold pGt at h | unfold pGe at h | unfold pIn at h | unfold pNin at h | unfold pIsN at h | unfold pNotN at h
    split at h
    all_goals first
      | exact ⟨_, okBl_is h⟩
      | cases h
      | (split at h <;> first | exact ⟨_, okBl_is h⟩ | cases h)
      | (simp only [Option.bind_eq_some_iff] at h; obtain ⟨_, _, _, _, h⟩ := h; exact ⟨_, okBl_is h⟩)
theorem t_cmp {op : CmpOp} {pr : Prim} (hp : boolish pr = true) (ho : OpR X (compareOp op) (VR2 X.K (primD pr))) (ha : IE X fn a ca) (hb : IE X fn b cb) (hm : behindInMarks op b = false) : IT X fn (.Compare a [op] [b] pos) (.prim pr (.cons ca (.cons cb .nil))) :=
  .mk <| (pt_cmpR ho ha.v hb.v hm).imp fun σ H Q ⟨W, ρ, k, hR, he, q⟩ => by
    have he' : (evE fn (.prim pr (.cons ca (.cons cb .nil))) ρ).bind truth = some k := by
      rw [evT] at he
      rw [evE]
      simp only [Option.bind_eq_some_iff] at he ⊢
      obtain ⟨rs, e1, r, e2, e3⟩ := he
      exact ⟨r, ⟨rs, e1, e2⟩, e3⟩
    rw [Option.bind_eq_some_iff] at he'
    obtain ⟨r, e1, e2⟩ := he'
    have e1' := e1
    rw [evE] at e1'
    simp only [Option.bind_eq_some_iff] at e1'
    obtain ⟨rs, _, e3⟩ := e1'
    obtain ⟨b, rfl⟩ := boolish_is hp e3
    simp only [truth] at e2
    cases e2
    exact two_vr hR e1 fun v H' s h => by
      cases h with
      | val h => cases h; exact ⟨_, rfl, q H' s⟩
theorem t_chain {op op' : CmpOp} {p q : Prim} (hp : boolish p = true) (hq' : boolish q = true) (ho : OpR X (compareOp op) (VR2 X.K (primD p))) (ho' : OpR X (compareOp op') (VR2 X.K (primD q))) (ha : IE X fn a ca) (hb : IE X fn b cb) (hc : IE X fn c cc)
    (hm : lastMarks [op, op'] [b, c] = false := by with_unfolding_all rfl) : IT X fn (.Compare a [op, op'] [b, c] pos) (.chain p q ca cb cc) :=
  .mk <| (pt_chain ho ho' ha.v hb.v hc.v hm).imp fun σ H Q ⟨W, ρ, k, hR, he, hq⟩ => by
    simp only [evT, Option.bind_eq_some_iff] at he
    obtain ⟨r1, e1, r2, e2, z, e3, e4⟩ := he
    refine ⟨W, ρ, r1, hR, e1, fun v1 H1 s1 f1 => ⟨W, ρ, r2, hR.same s1, e2, fun v2 H2 s2 f2 => ?_⟩⟩
    refine ⟨W, _, z, hR.wf' (s1.trans s2), .cons (f1.same s2).sees (.cons f2.sees .nil), e3, fun v H3 s3 h3 => ?_⟩
    split at e4
    · cases h3 with
      | val h3 =>
        cases h3
        simp only [Option.bind_eq_some_iff] at e4
        obtain ⟨r3, e5, r4, e6, e7⟩ := e4
        refine ⟨true, rfl, ?_⟩
        rw [if_pos rfl]
        have s13 := (s1.trans s2).trans s3
        refine ⟨W, ρ, r3, hR.same s13, e5, fun v4 H4 s4 f4 => ?_⟩
        refine ⟨W, _, r4, hR.wf' (s13.trans s4), .cons ((f2.same s3).same s4).sees (.cons f4.sees .nil), e6, fun v5 H5 s5 h5 => ?_⟩
        obtain ⟨b5, rfl⟩ := boolish_is hq' e6
        simp only [truth] at e7
        cases e7
        cases h5 with
        | val h5 => cases h5; exact ⟨_, rfl, hq H5 (s13.trans (s4.trans s5))⟩
    · cases h3 with
      | val h3 =>
        cases h3; cases e4
        exact ⟨false, rfl, by rw [if_neg Bool.false_ne_true]; exact ⟨false, rfl, hq H3 ((s1.trans s2).trans s3)⟩⟩
    · cases e4
theorem truth_v {K : PySem.W.Frag} {W : Addr → Prop} {H : Hp} {r : SV} {v : V} {k : Bool} (f : Frz K W H r v) (h : truth r = some k) : TruV K v H k := by
  unfold truth at h
  split at h
  · cases h; cases f with | val f => cases f; rfl
  · cases h; cases f with | val f => cases f; rfl
  · cases h; cases f with | val f => cases f; rfl
  · rename_i l
    cases h
    obtain ⟨a, xs, rfl, hq, rp⟩ := Frz.sees f |>.tup
    refine .inr (.inl ⟨xs, hq, ?_⟩)
    cases rp <;> rfl
  · cases h
    obtain ⟨a, xs, rfl, hq, rp⟩ := Frz.sees f |>.lst
    refine .inl ⟨xs, hq, ?_⟩
    cases rp <;> rfl
  · cases h
    obtain ⟨a, xs, rfl, hq, rp⟩ := Frz.sees f |>.lst
    refine .inl ⟨xs, hq, ?_⟩
    cases rp <;> rfl
  · cases h
/-- the truth of a value: for expressions that are no and, or, not, comparison -/
theorem t_val (hE : IE X fn e ce) (hev : ∀ ρ, evT fn ce ρ = (evE fn ce ρ).bind truth) (he : ∀ whole, isTrue e X.env whole = (do let v ← whole; standAt e.pos; holding [v] (truthy v)) := by intro _; rfl) : IT X fn e ce :=
  .mk <| (pt_truth hE.v he).imp fun σ H Q ⟨W, ρ, k, hR, ht, q⟩ => by
    rw [hev, Option.bind_eq_some_iff] at ht
    obtain ⟨r, e1, e2⟩ := ht
    exact ⟨W, ρ, r, hR, e1, fun v H1 s1 f => ⟨k, truth_v f e2, q H1 s1⟩⟩
theorem ev_var (i : Nat) : ∀ ρ, evT fn (.var i) ρ = (evE fn (.var i) ρ).bind truth := fun ρ => by rw [evT, evE]
theorem ev_prim (p : Prim) (cs : Es) : ∀ ρ, evT fn (.prim p cs) ρ = (evE fn (.prim p cs) ρ).bind truth := fun ρ => by rw [evT, evE, Option.bind_assoc]
theorem ev_call (f : Nat) (cs : Es) : ∀ ρ, evT fn (.call f cs) ρ = (evE fn (.call f cs) ρ).bind truth := fun ρ => by rw [evT, evE, Option.bind_assoc]
end
end L2.LW
set_option linter.all false
set_option maxHeartbeats 4000000
namespace L2.LW
open PySem PySem.Spec PyProof.Rows
/-! ### calls of the text's defs -/
def spI (K : PySem.W.Frag) (fn : Nat → List D → Option SV) (i : Nat) : Sp := fun vs H Q _ => ∃ W ds r, Wf W H ∧ Reps K W H ds vs ∧ fn i ds = some r ∧ ∀ v H', Same H H' → Res K W H H' r v → Q v H'
/-- the arguments of a def, with objects to be changed -/
structure ARep (K : PySem.W.Frag) (W : Addr → Prop) (H : Hp) (io : List Nat) (ds : List D) (vs : List V) : Prop where
  len : ds.length = vs.length
  val : ∀ (k : Nat) (d : D), ds[k]? = some d → k ∉ io → ∃ v, vs[k]? = some v ∧ Rep K W H d v
  obj : ∀ (k : Nat) (d : D), ds[k]? = some d → k ∈ io → ∃ a o, vs[k]? = some (.ref a) ∧ W a ∧ H a = some o ∧ ORep K W H d o
  inj : ∀ (j k : Nat) (a : Addr), j ∈ io → k ∈ io → vs[j]? = some (.ref a) → vs[k]? = some (.ref a) → j = k
def ioV (io : List Nat) (vs : List V) (a : Addr) : Prop := ∃ k ∈ io, vs[k]? = some (.ref a)
def Outs (K : PySem.W.Frag) (W : Addr → Prop) (H : Hp) (io : List Nat) (vs : List V) (outs : List D) : Prop :=
  Paired (fun k d => ∃ a o, vs[k]? = some (.ref a) ∧ H a = some o ∧ ORep K W H d o) io outs
def spA (K : PySem.W.Frag) (fa : Nat → List D → Option Ans) (i : Nat) (io : List Nat) : Sp := fun vs H Q _ => ∃ W ds r outs, Wf W H ∧ ARep K W H io ds vs ∧ fa i ds = some (.ok r outs) ∧
  ∀ v H', (∀ a o, H a = some o → ¬ ioV io vs a → H' a = some o) → Outs K W H' io vs outs → Res K W H H' r v → Q v H'
theorem Reps.get' {K : PySem.W.Frag} {W : Addr → Prop} {H : Hp} {ds : List D} {vs : List V} (r : Reps K W H ds vs) : ARep K W H [] ds vs :=
  ⟨r.length, fun k d h _ => r.get h, fun k d _ h => (by cases h), fun j k a h => (by cases h)⟩
theorem prj_some {fa : Nat → List D → Option Ans} {i : Nat} {ds : List D} {r : SV} (h : prj fa i ds = some r) : fa i ds = some (.ok r []) := by
  unfold prj at h
  split at h
  · rename_i r' e; cases h; exact e
  · cases h
theorem pure_ok {Pg : Program} {w : World} {K : PySem.W.Frag} {mg : Str → Option Value} {base : Heap} {k : Nat} {f : Addr} {fd : FuncData} {ps : List Str} {fa : Nat → List D → Option Ans} {i : Nat} {io : List Nat}
    (F : FnOk Pg w K mg base CX0 k f fd ps (spA K fa i io)) (h : io = []) : FnOk Pg w K mg base CX0 k f fd ps (spI K (prj fa) i) := by
  subst h
  exact F.imp fun vs H Q E ⟨W, ds, r, wf, rp, e, q⟩ => ⟨W, ds, r, [], wf, rp.get', prj_some e, fun v H' k _ res => q v H' (fun a o h => k a o h fun ⟨_, z, _⟩ => by cases z) res⟩
theorem frz_lent {K : PySem.W.Frag} {W : Addr → Prop} {H : Hp} : ∀ {rs : List SV} {vs : List V}, Paired (Frz K W H) rs vs → rs.any SV.lent = false → Reps K W H (rs.map seeD) vs
  | _, _, .nil, _ => .nil
  | _, _, .cons h t, e => by
    simp only [List.any_cons, Bool.or_eq_false_iff] at e
    refine .cons ?_ (frz_lent t e.2)
    cases h with
    | val h => exact h
    | lis h e' r => exact r.rep h e'
    | see h e' r => simp [SV.lent] at e
theorem frz_all {K : PySem.W.Frag} {W : Addr → Prop} {H : Hp} : ∀ {rs : List SV} {vs : List V}, Paired (Frz K W H) rs vs → Reps K (fun _ => False) H (rs.map seeD) vs
  | _, _, .nil => .nil
  | _, _, .cons h t => by
    refine .cons ?_ (frz_all t)
    cases h with
    | val h => exact h.less fun _ z => z.elim
    | lis h e' r => exact (r.less fun _ z => z.elim).rep (fun z => z) e'
    | see h e' r => exact (r.less fun _ z => z.elim).rep (fun z => z) e'
theorem Res.plain {K : PySem.W.Frag} {W W' : Addr → Prop} {H H' : Hp} {r : SV} {v : V} (h : Res K W' H H' r v) (wf : ∀ a, W' a → W a) (p : r.plain = true) : Res K W H H' r v := by
  cases h with
  | val h => exact .val (h.plain p)
  | new h e r => exact .new h e (r.plain p)
  | see h e r => exact .see (wf _ h) e (r.plain p)
section
variable {X : Cx} {fn : Nat → List D → Option SV} {fuel : Nat} {a b c e : Expr} {ca cb cc ce : E} {es : List Expr} {cs : Es} {pos p : Pos} {x : Str}
theorem i_call {k : Nat} {f : Addr} {fd : FuncData} {ps : List Str} {i : Nat} (F : FnOk X.prog X.w X.K X.mg X.base CX0 k f fd ps (spI X.K fn i)) (hr : Room k X.A) (hg : Gl X x) (hm : X.mg x = some (.ref f)) (hk : PySem.W.keepIn X.K (.ref f) = true)
    (hb : Binds X.K fd ps []) (ha : IA X fn (e :: es) cs) (hdb : (x == ("__debug__" : Str)) = false := by decide) (he : starEach (e :: es) X.env = (false, eval e X.env) :: starEach es X.env := by rfl)
    (hpl : (backTo pos (starEach es X.env)).any (·.1) = false := by rfl) : IE X fn (.Call (.Name x p) (e :: es) [] pos) (.call i cs) :=
  .mk <| (pe_call F hr hg hm hk hb .nil pass0 ha.h hdb he hpl).imp fun σ H Q ⟨W, ρ, r, hR, h, q⟩ => by
    simp only [evE, Option.bind_eq_some_iff, callR] at h
    obtain ⟨rs, e1, r', e2, e3⟩ := h
    split at e3
    · cases e3
    · rename_i hc
      cases e3
      refine ⟨W, ρ, rs, hR, e1, fun vs H1 s1 f => ?_⟩
      show spI X.K fn i (vs ++ []) H1 Q E0
      rw [List.append_nil]
      cases hl : rs.any SV.lent with
      | false => exact ⟨W, _, r, hR.wf' s1, frz_lent f hl, e2, fun v H' s2 h => q v H' (s1.trans s2) (h.back s1)⟩
      | true =>
        have hp : r.plain = true := by
          cases hp : r.plain with
          | true => rfl
          | false => exact absurd (by rw [hl, hp]; rfl) hc
        exact ⟨fun _ => False, _, r, fun _ z => z.elim, frz_all f, e2, fun v H' s2 h => q v H' (s1.trans s2) ((h.plain (fun _ z => z.elim) hp).back s1)⟩
/-! ### slots -/
section
variable {K : PySem.W.Frag} {W : Addr → Prop} {ρ : LW.Env} {σ : St} {H H' : Hp} {i j : Nat} {d : D} {v : V}
theorem set_get {α : Type} {l : List α} {i j : Nat} {x y : α} (h : (l.set i x)[j]? = some y) : (i = j ∧ y = x ∧ j < l.length) ∨ (i ≠ j ∧ l[j]? = some y) := by
  rw [List.getElem?_set] at h
  split at h
  · rename_i e
    subst e
    split at h
    · cases h; exact .inl ⟨rfl, rfl, by assumption⟩
    · cases h
  · exact .inr ⟨by assumption, h⟩
theorem get_set {α : Type} {l : List α} {i : Nat} {x : α} (h : i < l.length) : (l.set i x)[i]? = some x := by simp [h]
theorem get_set_ne {α : Type} {l : List α} {i j : Nat} {x : α} (h : i ≠ j) : (l.set i x)[j]? = l[j]? := List.getElem?_set_ne h
theorem R.set_val (r : R K W ρ σ H) (h : Rep K W H d v) : R K W (ρ.set i (some (.val d))) (σ.set i (some v)) H := by
  refine ⟨fun j e hj => ?_, fun j e hj => ?_, fun j x e hj hc => ?_, fun j k x y e1 e2 a h1 h2 c1 c2 h3 h4 => ?_, r.wf, by simpa using r.len⟩
  · rcases set_get hj with ⟨rfl, z, hl⟩ | ⟨n, z⟩
    · cases z
      exact ⟨v, get_set (by rw [← r.len]; exact hl), h⟩
    · obtain ⟨u, h1, h2⟩ := r.val j e z
      exact ⟨u, by rw [get_set_ne n]; exact h1, h2⟩
  · rcases set_get hj with ⟨rfl, z, hl⟩ | ⟨n, z⟩
    · cases z
    · exact r.nol j e z
  · rcases set_get hj with ⟨rfl, z, hl⟩ | ⟨n, z⟩
    · cases z; cases hc
    · obtain ⟨a, o, h1, h2⟩ := r.own j x e z hc
      exact ⟨a, o, by rw [get_set_ne n]; exact h1, h2⟩
  · rcases set_get h1 with ⟨rfl, z, hl⟩ | ⟨n, z⟩
    · cases z; cases c1
    · rcases set_get h2 with ⟨rfl, z', hl⟩ | ⟨n', z'⟩
      · cases z'; cases c2
      · rw [get_set_ne n] at h3
        rw [get_set_ne n'] at h4
        exact r.inj j k x y e1 e2 a z z' c1 c2 h3 h4
theorem own_set_val {a : Addr} (h : Own (ρ.set i (some (.val d))) (σ.set i (some v)) a) : Own ρ σ a := by
  obtain ⟨j, x, e, h1, hc, h2⟩ := h
  rcases set_get h1 with ⟨rfl, z, hl⟩ | ⟨n, z⟩
  · cases z; cases hc
  · rw [get_set_ne n] at h2
    exact ⟨j, x, e, z, hc, h2⟩
theorem io_set {x : SV} (hx : ∀ d, x ≠ .io d) (hf : ¬ isIo ρ i) (j : Nat) : (isIo (ρ.set i (some x)) j ↔ isIo ρ j) ∧ (isIo ρ j → i ≠ j) := by
  refine ⟨⟨fun ⟨d, h⟩ => ?_, fun ⟨d, h⟩ => ?_⟩, fun h e => hf (by rw [e]; exact h)⟩
  · rcases set_get h with ⟨rfl, z, hl⟩ | ⟨n, z⟩
    · cases z; exact absurd rfl (hx d)
    · exact ⟨d, z⟩
  · exact ⟨d, by rw [get_set_ne (fun e => hf (by rw [e]; exact ⟨d, h⟩))]; exact h⟩
theorem post_set_val (r : R K W ρ σ H) (s : Same H H') (h : Rep K W H' d v) (hf : ¬ isIo ρ i) : SPost K W ρ σ H W (ρ.set i (some (.val d))) (σ.set i (some v)) H' :=
  ⟨(r.same s).set_val h, fun a o q _ => s a o q, fun a w => .inl w, fun a w n => ⟨w, fun z => n (own_set_val z)⟩, fun j => ⟨(io_set (x := .val d) (fun _ z => (nomatch z)) hf j).1, fun z => get_set_ne ((io_set (x := .val d) (fun _ z => (nomatch z)) hf j).2 z)⟩⟩
theorem add_wf {a : Addr} (wf : Wf W H) (s : Same H H') {o : HO} (e : H' a = some o) : Wf (add W a) H' := fun b w => by
  rcases w with w | rfl
  · cases q : H b with
    | none => exact absurd q (wf b w)
    | some u => rw [s b u q]; exact fun z => nomatch z
  · rw [e]; exact fun z => nomatch z
theorem add_ext {a : Addr} (s : Same H H') (h : H a = Option.none) : Ext W H (add W a) H' :=
  ⟨fun b o q _ => s b o q, fun b xs q => s b _ q, fun b o u q => s b _ q, fun b w => by
    rcases w with w | rfl
    · exact .inl w
    · exact .inr h⟩
theorem R.add {a : Addr} {o : HO} (r : R K W ρ σ H) (s : Same H H') (h : H a = Option.none) (e : H' a = some o) : R K (LW.add W a) ρ σ H' := by
  refine ⟨fun j d hj => ?_, r.nol, fun j x d hj hc => ?_, r.inj, add_wf r.wf s e, r.len⟩
  · obtain ⟨u, h1, h2⟩ := r.val j d hj
    exact ⟨u, h1, h2.ext (add_ext s h)⟩
  · obtain ⟨b, o, h1, h2, h3, h4⟩ := r.own j x d hj hc
    exact ⟨b, o, h1, .inl h2, s _ _ h3, h4.ext (add_ext s h)⟩
theorem R.noOwn {a : Addr} (r : R K W ρ σ H) (h : H a = Option.none) : ¬ Own ρ σ a := fun z => by
  obtain ⟨_, o, d, e, _⟩ := r.ownW z
  rw [h] at e; cases e
theorem post_set_new {a : Addr} {o : HO} (r : R K W ρ σ H) (s : Same H H') (h : H a = Option.none) (e : H' a = some o) (rp : ORep K (LW.add W a) H' d o) (hf : ¬ isIo ρ i) :
    SPost K W ρ σ H (LW.add W a) (ρ.set i (some (.obj true d))) (σ.set i (some (.ref a))) H' := by
  have ra := r.add s h e
  refine ⟨⟨fun j d hj => ?_, fun j d hj => ?_, fun j x es hj hc => ?_, fun j k x y e1 e2 b h1 h2 c1 c2 h3 h4 => ?_, ra.wf, by simpa using r.len⟩, fun b o q _ => s b o q, (add_ext (W := W) s h).win, fun b w n => ⟨.inl w, fun z => ?_⟩,
    fun j => ⟨(io_set (x := .obj true d) (fun _ z => (nomatch z)) hf j).1, fun z => get_set_ne ((io_set (x := .obj true d) (fun _ z => (nomatch z)) hf j).2 z)⟩⟩
  · rcases set_get hj with ⟨rfl, z, hl⟩ | ⟨n, z⟩
    · cases z
    · obtain ⟨u, h1, h2⟩ := ra.val j d z
      exact ⟨u, by rw [get_set_ne n]; exact h1, h2⟩
  · rcases set_get hj with ⟨rfl, z, hl⟩ | ⟨n, z⟩
    · cases z
    · exact r.nol j d z
  · rcases set_get hj with ⟨rfl, z, hl⟩ | ⟨n, z⟩
    · cases z; cases hc
      exact ⟨a, o, get_set (by rw [← r.len]; exact hl), .inr rfl, e, rp⟩
    · obtain ⟨b, ys, h1, h2⟩ := ra.own j x es z hc
      exact ⟨b, ys, by rw [get_set_ne n]; exact h1, h2⟩
  · have other : ∀ {k : Nat} {x : SV} {e : D}, ρ[k]? = some (some x) → x.cell = some e → σ[k]? = some (some (.ref a)) → False := fun {k x e} q1 q3 q2 => r.noOwn h ⟨k, x, e, q1, q3, q2⟩
    rcases set_get h1 with ⟨rfl, z, hl⟩ | ⟨n, z⟩
    · rcases set_get h2 with ⟨rfl, _, _⟩ | ⟨n', z'⟩
      · rfl
      · rw [get_set (by rw [← r.len]; exact hl)] at h3
        cases h3
        rw [get_set_ne n'] at h4
        exact (other z' c2 h4).elim
    · rcases set_get h2 with ⟨rfl, z', hl⟩ | ⟨n', z'⟩
      · rw [get_set (by rw [← r.len]; exact hl)] at h4
        cases h4
        rw [get_set_ne n] at h3
        exact (other z c1 h3).elim
      · rw [get_set_ne n] at h3
        rw [get_set_ne n'] at h4
        exact r.inj j k x y e1 e2 b z z' c1 c2 h3 h4
  · obtain ⟨j, x, es, h1, hc, h2⟩ := z
    rcases set_get h1 with ⟨rfl, _, hl⟩ | ⟨n', z'⟩
    · rw [get_set (by rw [← r.len]; exact hl)] at h2
      cases h2
      exact r.wf _ w h
    · rw [get_set_ne n'] at h2
      exact n ⟨j, x, es, z', hc, h2⟩
/-- a slot's own object is frozen -/
def del (W : Addr → Prop) (a : Addr) : Addr → Prop := fun b => W b ∧ b ≠ a
theorem del_less {a : Addr} : ∀ b, del W a b → W b := fun _ h => h.1
theorem post_freeze {a : Addr} {o : Bool} (r : R K W ρ σ H) (h : ρ[j]? = some (some (.obj o d))) (h' : σ[j]? = some (some (.ref a))) :
    SPost K W ρ σ H (del W a) (ρ.set j (some (.val d))) σ H ∧ Rep K (del W a) H d (.ref a) := by
  cases o with
  | false => exact absurd h (r.nol j d)
  | true =>
  obtain ⟨a', o, e1, e2, e3, e4⟩ := r.own j _ d h rfl
  rw [h'] at e1; cases e1
  have rp : Rep K (del W a) H d (.ref a) := (e4.less del_less).rep (fun z => z.2 rfl) e3
  have nio : ¬ isIo ρ j := fun ⟨d', z⟩ => by rw [h] at z; cases z
  refine ⟨⟨⟨fun k d' hk => ?_, fun k d' hk => ?_, fun k x es hk hc => ?_, fun k l x y e1 e2 b h1 h2 c1 c2 h3 h4 => ?_, fun b w => r.wf b w.1, by simpa using r.len⟩, fun b o q _ => q, fun b w => .inl w.1, fun b w n => ⟨⟨w, fun z => ?_⟩, fun z => ?_⟩,
    fun k => ⟨(io_set (x := .val d) (fun _ z => (nomatch z)) nio k).1, fun _ => rfl⟩⟩, rp⟩
  · rcases set_get hk with ⟨rfl, z, hl⟩ | ⟨n, z⟩
    · cases z; exact ⟨_, h', rp⟩
    · obtain ⟨u, h1, h2⟩ := r.val k d' z
      exact ⟨u, h1, h2.less del_less⟩
  · rcases set_get hk with ⟨rfl, z, hl⟩ | ⟨n, z⟩
    · cases z
    · exact r.nol k d' z
  · rcases set_get hk with ⟨rfl, z, hl⟩ | ⟨n, z⟩
    · cases z; cases hc
    · obtain ⟨b, ys, h1, h2, h3, h4⟩ := r.own k x es z hc
      refine ⟨b, ys, h1, ⟨h2, fun z' => ?_⟩, h3, h4.less del_less⟩
      subst z'
      exact n (r.inj j k _ x d es b h z rfl hc h' h1)
  · rcases set_get h1 with ⟨rfl, z, hl⟩ | ⟨n, z⟩
    · cases z; cases c1
    · rcases set_get h2 with ⟨rfl, z', hl⟩ | ⟨n', z'⟩
      · cases z'; cases c2
      · exact r.inj k l x y e1 e2 b z z' c1 c2 h3 h4
  · subst z
    exact n ⟨j, _, d, h, rfl, h'⟩
  · obtain ⟨k, x, es, h1, hc, h2⟩ := z
    rcases set_get h1 with ⟨rfl, z, hl⟩ | ⟨n', z⟩
    · cases z; cases hc
    · exact n ⟨k, x, es, z, hc, h2⟩
theorem put_cell (x : SV) (d : D) : (x.put d).cell = some d := by cases x <;> rfl
theorem put_val (x : SV) (d d' : D) : x.put d ≠ .val d' := by cases x <;> exact fun z => nomatch z
theorem put_obj (x : SV) (d d' : D) : x.put d ≠ .obj false d' := by
  cases x <;> intro z <;> first | cases z | (simp [SV.put] at z)
theorem put_io {x : SV} {d : D} : (∃ d', x.put d = .io d') ↔ ∃ d', x = .io d' := by
  cases x with
  | io y => exact ⟨fun _ => ⟨_, rfl⟩, fun _ => ⟨_, rfl⟩⟩
  | _ => exact ⟨fun ⟨_, z⟩ => (nomatch z), fun ⟨_, z⟩ => (nomatch z)⟩
/-- the object in a slot is changed -/
theorem post_put {a : Addr} {x : SV} {d0 d' : D} {o o' : HO} (r : R K W ρ σ H) (h : ρ[i]? = some (some x)) (hc : x.cell = some d0) (h' : σ[i]? = some (some (.ref a))) (s : Same H H') (e : H' a = some o) (hk : (∀ xs, o ≠ .tup xs) ∧ (∀ b u, o ≠ .frz b u))
    (rp : ORep K W H' d' o') : SPost K W ρ σ H W (ρ.set i (some (x.put d'))) σ (upd H' a o') := by
  have r' := r.same s
  have hO : Own ρ σ a := ⟨i, x, d0, h, hc, h'⟩
  have hW : W a := (r.ownW hO).1
  have ext : Ext W H' W (upd H' a o') := by
    refine ⟨fun b o q n => ?_, fun b ys q => ?_, fun b o u q => ?_, fun b w => .inl w⟩
    · rw [upd_ne (fun z => n (by rw [z]; exact hW))]; exact q
    · rw [upd_ne (fun z => by rw [z, e] at q; cases q; exact hk.1 _ rfl)]; exact q
    · rw [upd_ne (fun z => by rw [z, e] at q; cases q; exact hk.2 _ _ rfl)]; exact q
  have old : ∀ {k : Nat} {y : SV} {es : D}, (ρ.set i (some (x.put d')))[k]? = some (some y) → y.cell = some es → ∃ y' es', ρ[k]? = some (some y') ∧ y'.cell = some es' := fun {k y es} q c => by
    rcases set_get q with ⟨rfl, _, _⟩ | ⟨_, z⟩
    · exact ⟨_, _, h, hc⟩
    · exact ⟨_, _, z, c⟩
  refine ⟨⟨fun k d' hk => ?_, fun k d' hk => ?_, fun k y es hk hc' => ?_, fun k l x y e1 e2 b h1 h2 c1 c2 h3 h4 => ?_, fun b w => ?_, by simpa using r.len⟩, fun b o q n => ?_, fun b w => .inl w, fun b w n => ⟨w, fun z => ?_⟩, fun j => ⟨?_, fun _ => rfl⟩⟩
  · rcases set_get hk with ⟨rfl, z, hl⟩ | ⟨n, z⟩
    · exact absurd (Option.some.inj z).symm (put_val _ _ _)
    · obtain ⟨u, h1, h2⟩ := r'.val k d' z
      exact ⟨u, h1, h2.ext ext⟩
  · rcases set_get hk with ⟨rfl, z, hl⟩ | ⟨n, z⟩
    · exact absurd (Option.some.inj z).symm (put_obj _ _ _)
    · exact r.nol k d' z
  · rcases set_get hk with ⟨rfl, z, hl⟩ | ⟨n, z⟩
    · cases z
      rw [put_cell] at hc'
      cases hc'
      exact ⟨a, _, h', hW, upd_same, rp.ext ext⟩
    · obtain ⟨b, ys, h1, h2, h3, h4⟩ := r'.own k y es z hc'
      refine ⟨b, ys, h1, h2, ?_, h4.ext ext⟩
      rw [upd_ne (fun z' => by subst z'; exact n (r.inj i k x y d0 es b h z hc hc' h' h1))]
      exact h3
  · obtain ⟨_, _, z1, w1⟩ := old h1 c1
    obtain ⟨_, _, z2, w2⟩ := old h2 c2
    exact r.inj k l _ _ _ _ b z1 z2 w1 w2 h3 h4
  · by_cases z : b = a
    · subst z; rw [upd_same]; exact fun z => nomatch z
    · rw [upd_ne z]; exact r'.wf b w
  · rw [upd_ne (fun z => n (by rw [z]; exact hO))]
    exact s b o q
  · obtain ⟨k, y, es, h1, hc', h2⟩ := z
    obtain ⟨_, _, z, w⟩ := old h1 hc'
    exact n ⟨k, _, _, z, w, h2⟩
  · by_cases e : i = j
    · subst e
      have hl : i < ρ.length := by
        obtain ⟨z, _⟩ := List.getElem?_eq_some_iff.mp h; exact z
      constructor
      · rintro ⟨d', z⟩
        rw [get_set hl] at z
        have z := Option.some.inj (Option.some.inj z)
        obtain ⟨d2, w⟩ := put_io.mp ⟨d', z⟩
        exact ⟨d2, by rw [h, w]⟩
      · rintro ⟨d2, z⟩
        rw [h] at z
        obtain ⟨d3, w⟩ := put_io (d := d').mpr ⟨d2, Option.some.inj (Option.some.inj z)⟩
        exact ⟨d3, by rw [get_set hl, w]⟩
    · unfold isIo; rw [get_set_ne e]
end
/-! ### returns and flows -/
theorem Ret.back {K : PySem.W.Frag} {W W1 W2 : Addr → Prop} {ρ ρ1 : LW.Env} {σ σ1 : St} {H H1 H2 : Hp} {r : SV} {v : V} (p : SPost K W ρ σ H W1 ρ1 σ1 H1) (h : Ret K W1 ρ1 σ1 W2 H2 r v) : Ret K W ρ σ W2 H2 r v := by
  cases h with
  | val h => exact .val h
  | new h n n' e r => exact .new h (fun ⟨w, z⟩ => n (p.wout _ w z)) (fun ⟨i, z1, z2⟩ => n' ⟨i, (p.io i).1.mpr z1, by rw [(p.io i).2 z1]; exact z2⟩) e r
theorem FlOk.back {K : PySem.W.Frag} {W W1 W2 : Addr → Prop} {ρ ρ1 ρ2 : LW.Env} {σ σ1 σ2 : St} {H H1 H2 : Hp} {D : Ends} {fl : Fl} (p : SPost K W ρ σ H W1 ρ1 σ1 H1) (h : FlOk K W ρ σ W2 ρ2 σ2 H2 D fl) : FlOk K W1 ρ1 σ1 W2 ρ2 σ2 H2 D fl := by
  cases fl with
  | rt r => exact fun v q => h v (q.back p)
  | _ => exact h
/-! ### statements -/
structure IS (X : Cx) (ex : LW.Env → Option (Fl × LW.Env)) (st : Stmt) : Prop where
  h : PS X st (tSs X.K ex)
structure ISs (X : Cx) (ex : LW.Env → Option (Fl × LW.Env)) (st : List Stmt) : Prop where
  h : PSs X st (tSs X.K ex)
variable {fa : Nat → List D → Option Ans} {st : Stmt} {sts : List Stmt} {s : S} {ss s1 s2 : Ss}
theorem ss_nil : ISs X (exSs fa fuel .nil) [] := .mk <| pss_nil.imp fun D σ H ⟨W, ρ, x, hR, hx, q⟩ => by
  simp only [exSs] at hx; cases hx; exact q W σ H (.same hR (.refl H))
theorem ss_cons (h1 : IS X (exS fa fuel s) st) (h2 : ISs X (exSs fa fuel ss) sts) : ISs X (exSs fa fuel (.cons s ss)) (st :: sts) :=
  .mk <| (pss_cons h1.h h2.h).imp fun D σ H ⟨W, ρ, x, hR, hx, q⟩ => by
    simp only [exSs, Option.bind_eq_some_iff] at hx
    obtain ⟨⟨fl, ρ1⟩, e1, e2⟩ := hx
    refine ⟨W, ρ, (fl, ρ1), hR, e1, fun W1 σ1 H1 p1 => ?_⟩
    cases fl with
    | nx => exact ⟨W1, ρ1, x, p1.r, e2, fun W2 σ2 H2 p2 => FlOk.back p1 (q W2 σ2 H2 (p1.trans p2 hR))⟩
    | br => cases e2; exact q W1 σ1 H1 p1
    | ct => cases e2; exact q W1 σ1 H1 p1
    | rt r => cases e2; exact q W1 σ1 H1 p1
theorem s_expr (he : IE X (prj fa) e ce) (hs : swapsWith e Option.none pos.line X.env = pure false := by rfl) : IS X (exS fa fuel (.expr ce)) (.Expr e pos) :=
  .mk <| (ps_expr he.h hs).imp fun D σ H ⟨W, ρ, x, hR, hx, q⟩ => by
    simp only [exS, Option.map_eq_some_iff] at hx
    obtain ⟨r, e1, rfl⟩ := hx
    exact ⟨W, ρ, r, hR, e1, fun v H1 s1 _ => q W σ H1 (.same hR s1)⟩
theorem s_asg (i : Nat) {pos' : Pos} (hN : X.N.Nodup) (hi : X.N[i]? = some x) (hx : Loc X.env.scope x) (he : IE X (prj fa) e ce) (hs : swapsWith e (some (.Name x pos')) pos.line X.env = pure false := by rfl)
    (hf : X.fn x = true ∨ X.env.scope.names.lookup x = some .local := by first | exact .inl rfl | exact .inr rfl | assumption) : IS X (exS fa fuel (.asg i ce)) (.Assign [.Name x pos'] e pos) :=
  .mk <| (ps_set hN hi hx he.h hs hf).imp fun D σ H ⟨W, ρ, y, hR, hy, q⟩ => by
    simp only [exS, Option.bind_eq_some_iff] at hy
    obtain ⟨r, e1, e2⟩ := hy
    split at e2
    · cases e2
    · rename_i hl
      cases e2
      simp only [Bool.not_eq_true, Bool.or_eq_false_iff, Bool.not_eq_false'] at hl
      refine ⟨W, ρ, r, hR, e1, fun v H1 s1 h => ?_⟩
      cases h with
      | val h => exact q W _ H1 (post_set_val hR s1 h (free_io hl.2))
      | new h e r => exact q _ _ H1 (post_set_new hR s1 h e r (free_io hl.2))
      | see h e r => simp [SV.lent] at hl
theorem s_mov (i j : Nat) {y : Str} {pos' : Pos} (hN : X.N.Nodup) (hi : X.N[i]? = some x) (hx : Loc X.env.scope x) (hj : X.N[j]? = some y) (hv : Vis X.env.scope y) (hs : swapsWith (.Name y p) (some (.Name x pos')) pos.line X.env = pure false := by rfl)
    (hf : X.fn x = true ∨ X.env.scope.names.lookup x = some .local := by first | exact .inl rfl | exact .inr rfl | assumption) (hd : (y == ("__debug__" : Str)) = false := by decide) (hcd : (y == ("__classdict__" : Str)) = false := by decide) :
    IS X (exS fa fuel (.mov i j)) (.Assign [.Name x pos'] (.Name y p) pos) :=
  .mk <| (ps_set hN hi hx (pe_var hj hv hd hcd) hs hf).imp fun D σ H ⟨W, ρ, z, hR, hz, q⟩ => by
    simp only [exS] at hz
    split at hz
    · rename_i hfr
      split at hz
      · rename_i d h
        cases hz
        obtain ⟨v, h1, h2⟩ := hR.val j d h
        exact ⟨v, h1, q W _ H (post_set_val hR (.refl H) h2 (free_io hfr))⟩
      · rename_i o ds h
        cases hz
        cases o with
        | false => exact absurd h (hR.nol j ds)
        | true =>
        obtain ⟨a, xs, h1, _⟩ := hR.own j _ ds h rfl
        obtain ⟨p1, rp⟩ := post_freeze hR h h1
        exact ⟨_, h1, q _ _ H (p1.trans (post_set_val p1.r (.refl H) rp fun z => free_io hfr ((p1.io _).1.mp z)) hR)⟩
      · cases hz
    · cases hz
theorem s_ret (he : IE X (prj fa) e ce) : IS X (exS fa fuel (.ret ce)) (.Return (some e) pos) :=
  .mk <| (ps_ret he.h).imp fun D σ H ⟨W, ρ, y, hR, hy, q⟩ => by
    simp only [exS, Option.bind_eq_some_iff] at hy
    obtain ⟨r, e1, e2⟩ := hy
    split at e2
    · cases e2
    · rename_i hl
      cases e2
      refine ⟨W, ρ, r, hR, e1, fun v H1 s1 h => ?_⟩
      cases h with
      | val h => exact q W σ H1 (.same hR s1) v (.val h)
      | new h e r =>
        refine q _ σ H1 ⟨hR.add s1 h e, fun b o q _ => s1 b o q, (add_ext (W := W) s1 h).win, fun b w n => ⟨.inl w, n⟩, fun _ => ⟨.rfl, fun _ => rfl⟩⟩ _ (.new (.inr rfl) (fun z => hR.wf _ z.1 h) (fun ⟨i, ⟨d, z1⟩, z2⟩ => hR.noOwn h ⟨i, _, d, z1, rfl, z2⟩) e r)
      | see h e r => simp [SV.lent] at hl
theorem s_retV (i : Nat) (hN : X.N[i]? = some x) (hv : Vis X.env.scope x) (hd : (x == ("__debug__" : Str)) = false := by decide) (hcd : (x == ("__classdict__" : Str)) = false := by decide) : IS X (exS fa fuel (.retV i)) (.Return (some (.Name x p)) pos) :=
  .mk <| (ps_ret (pe_var hN hv hd hcd)).imp fun D σ H ⟨W, ρ, y, hR, hy, q⟩ => by
    simp only [exS] at hy
    split at hy
    · rename_i d h
      cases hy
      obtain ⟨v, h1, h2⟩ := hR.val i d h
      exact ⟨v, h1, q W σ H (.same hR (.refl H)) v (.val h2)⟩
    · rename_i o ds h
      cases hy
      cases o with
      | false => exact absurd h (hR.nol i ds)
      | true =>
      obtain ⟨a, xs, h1, h2, h3, h4⟩ := hR.own i _ ds h rfl
      refine ⟨_, h1, q W σ H ?_ _ (.new h2 (fun z => z.2 ⟨i, _, ds, h, rfl, h1⟩) (fun ⟨j, ⟨d', z1⟩, z2⟩ => by
        have := hR.inj i j _ _ ds d' a h z1 rfl rfl h1 z2
        subst this
        rw [h] at z1; cases z1) h3 h4)⟩
      have old : ∀ {k : Nat} {z : SV}, (ρ.set i Option.none)[k]? = some (some z) → ρ[k]? = some (some z) := fun {k z} q => by
        rcases set_get q with ⟨_, w, _⟩ | ⟨_, w⟩
        · cases w
        · exact w
      exact ⟨⟨fun k d hk => hR.val k d (old hk), fun k d hk => hR.nol k d (old hk), fun k o es hk => hR.own k o es (old hk), fun k l x y e1 e2 b z1 z2 => hR.inj k l x y e1 e2 b (old z1) (old z2), hR.wf, by simpa using hR.len⟩, fun b o q _ => q, fun b w => .inl w, fun b w n => ⟨w, fun ⟨k, x, es, z1, c, z2⟩ => n ⟨k, x, es, old z1, c, z2⟩⟩,
        fun k => ⟨⟨fun ⟨d', z⟩ => ⟨d', old z⟩, fun ⟨d', z⟩ => ⟨d', by rw [get_set_ne (fun e => by subst e; rw [h] at z; cases z)]; exact z⟩⟩, fun _ => rfl⟩⟩
    · cases hy
/-- whatever is never reached -/
theorem s_stop : IS X (exS fa fuel .stop) st := .mk <| ps_never.imp fun D σ H ⟨W, ρ, y, hR, hy, q⟩ => by
  simp only [exS] at hy; cases hy
theorem s_if (hc : IT X (prj fa) c cc) (h1 : ISs X (exSs fa fuel s1) sts) (h2 : ISs X (exSs fa fuel s2) sts') : IS X (exS fa fuel (.ifs cc s1 s2)) (.If c sts sts' pos) :=
  .mk <| (ps_if hc.h h1.h h2.h).imp fun D σ H ⟨W, ρ, y, hR, hy, q⟩ => by
    simp only [exS, Option.bind_eq_some_iff] at hy
    obtain ⟨k, e1, e2⟩ := hy
    refine ⟨W, ρ, k, hR, e1, fun H1 w1 => ?_⟩
    have p1 := SPost.same hR w1
    show if k = true then tSs X.K (exSs fa fuel s1) D σ H1 else tSs X.K (exSs fa fuel s2) D σ H1
    cases k with
    | true => rw [if_pos rfl] at e2 ⊢; exact ⟨W, ρ, y, p1.r, e2, fun W2 σ2 H2 p2 => FlOk.back p1 (q W2 σ2 H2 (p1.trans p2 hR))⟩
    | false => rw [if_neg Bool.false_ne_true] at e2 ⊢; exact ⟨W, ρ, y, p1.r, e2, fun W2 σ2 H2 p2 => FlOk.back p1 (q W2 σ2 H2 (p1.trans p2 hR))⟩
theorem s_app (i : Nat) {apos cpos : Pos} (hN : X.N[i]? = some x) (hv : Vis X.env.scope x) (he : IE X (prj fa) e ce) (hst : starEach [e] X.env = (false, eval e X.env) :: starEach [] X.env) (hd : (x == ("__debug__" : Str)) = false) (hcd : (x == ("__classdict__" : Str)) = false)
    (hs : swapsWith (.Call (.Attribute (.Name x p) "append" apos) [e] [] cpos) Option.none pos.line X.env = pure false := by rfl)
    (hbase : attributeBase (.Name x p) "append" X.env (eval (.Name x p) X.env) = eval (.Name x p) X.env := by rfl)
    (hline : (apos.endLine == cpos.line) = true := by rfl) :
    IS X (exS fa fuel (.app i ce)) (.Expr (.Call (.Attribute (.Name x p) "append" apos) [e] [] cpos) pos) :=
  .mk <| (ps_expr (pe_bm PySem.F.plainAttrs_list PySem.F.slot_list_append PySem.F.type_list_append mt_append (pe_var hN hv hd hcd) (pa_cons he.v pa_nil hst) hbase (by rw [hst]; rfl) hline hst sa_nil) hs).imp fun D σ H ⟨W, ρ, y, hR, hy, q⟩ => by
    simp only [exS] at hy
    split at hy
    · rename_i x h
      split at hy
      · rename_i ds hc
        simp only [Option.bind_eq_some_iff] at hy
        obtain ⟨r, e1, d, e2, e3⟩ := hy
        split at e3
        · rename_i hl
          cases e3
          obtain ⟨a, o, h1, h2, h3, h4⟩ := hR.own i _ _ h hc
          cases h4 with
          | lst h4 =>
          rename_i xs
          refine ⟨_, h1, .inl ⟨rfl, xs, .of h3⟩, ?_⟩
          refine ⟨W, ρ, r, hR, e1, fun v H1 w1 f => ?_⟩
          refine ⟨a, xs, v, rfl, rfl, w1 _ _ h3, ?_, ?_⟩
          · rw [← h4.length, ← line_eq]; exact hl
          · exact q W σ _ (post_put hR h hc h1 w1 (w1 _ _ h3) ⟨fun _ z => (nomatch z), fun _ _ z => (nomatch z)⟩ (.lst ((h4.ext (.same w1)).append (.cons (f.toD e2) .nil))))
        · cases e3
      · cases hy
    · cases hy
end
end L2.LW
set_option linter.all false
set_option maxHeartbeats 4000000
namespace L2.LW
open PySem PySem.Spec PyProof.Rows
/-! ### what a loop walks -/
/-- J yields ds, whatever happens to what is owned -/
def Yl (K : PySem.W.Frag) (J : It) (W : Addr → Prop) (H : Hp) (ds : List D) : Prop :=
  ∀ W' H', Ext W H W' H' → ∀ k : Nat, (k = ds.length → J.stop k H') ∧ ∀ d, ds[k]? = some d → J.go k H' ∧ ∀ x H'', J.yld k H' x H'' → H'' = H' ∧ Rep K W' H' d x
/-- J yields ds as long as nothing is changed -/
def Ys (K : PySem.W.Frag) (J : It) (W : Addr → Prop) (H : Hp) (ds : List D) : Prop :=
  ∀ W' H', Same H H' → (∀ a, W' a → W a ∨ H a = Option.none) → ∀ k : Nat, (k = ds.length → J.stop k H') ∧ ∀ d, ds[k]? = some d → J.go k H' ∧ ∀ x H'', J.yld k H' x H'' → H'' = H' ∧ Rep K W' H' d x
theorem Ext.sameW {W W' : Addr → Prop} {H H' : Hp} (s : Same H H') (w : ∀ a, W' a → W a ∨ H a = Option.none) : Ext W H W' H' := ⟨fun a o h _ => s a o h, fun a xs h => s a _ h, fun a o u h => s a _ h, w⟩
section
variable {K : PySem.W.Frag} {W : Addr → Prop} {H : Hp} {a : Addr} {xs : List V} {ds : List D}
theorem itl_at {H' : Hp} {W' : Addr → Prop} (hq : SqL K H' a xs) (rp : Reps K W' H' ds xs) (k : Nat) :
    (k = ds.length → (Itl K a).stop k H') ∧ ∀ d, ds[k]? = some d → (Itl K a).go k H' ∧ ∀ x H'', (Itl K a).yld k H' x H'' → H'' = H' ∧ Rep K W' H' d x := by
  refine ⟨fun e => ⟨xs, hq, by rw [← rp.length, e]; exact Nat.le_refl _⟩, fun d e => ?_⟩
  obtain ⟨v, e1, e2⟩ := rp.get e
  refine ⟨⟨xs, v, hq, e1⟩, fun x H'' ⟨z, y⟩ => ⟨z, ?_⟩⟩
  have := y xs hq
  rw [e1] at this
  cases this
  exact e2
theorem itt_at {H' : Hp} {W' : Addr → Prop} (hq : SqT K H' a xs) (rp : Reps K W' H' ds xs) (k : Nat) :
    (k = ds.length → (Itt K a).stop k H') ∧ ∀ d, ds[k]? = some d → (Itt K a).go k H' ∧ ∀ x H'', (Itt K a).yld k H' x H'' → H'' = H' ∧ Rep K W' H' d x := by
  refine ⟨fun e => ⟨xs, hq, by rw [← rp.length, e]; exact Nat.le_refl _⟩, fun d e => ?_⟩
  obtain ⟨v, e1, e2⟩ := rp.get e
  refine ⟨⟨xs, v, hq, e1⟩, fun x H'' ⟨z, y⟩ => ⟨z, ?_⟩⟩
  have := y xs hq
  rw [e1] at this
  cases this
  exact e2
theorem itr_at {H' : Hp} {W' : Addr → Prop} {lo : Int} {n : Nat} (k : Nat) :
    (k = ((List.range n).map fun (k : Nat) => D.int (lo + (k : Int))).length → (Itr lo n).stop k H') ∧
      ∀ d, ((List.range n).map fun (k : Nat) => D.int (lo + (k : Int)))[k]? = some d → (Itr lo n).go k H' ∧ ∀ x H'', (Itr lo n).yld k H' x H'' → H'' = H' ∧ Rep K W' H' d x := by
  refine ⟨fun e => ?_, fun d e => ?_⟩
  · rw [List.length_map, List.length_range] at e
    exact Nat.le_of_eq e.symm
  · rw [List.getElem?_map, Option.map_eq_some_iff] at e
    obtain ⟨j, e1, rfl⟩ := e
    obtain ⟨h1, h2⟩ := List.getElem?_eq_some_iff.mp e1
    rw [List.length_range] at h1
    rw [List.getElem_range] at h2
    subst h2
    exact ⟨h1, fun x H'' ⟨z, y⟩ => ⟨z, by rw [y]; exact .int _⟩⟩
theorem sqL_ext {W' : Addr → Prop} {H' : Hp} (h : (¬ W a ∧ Rd H a (.lst xs)) ∨ KLst K a xs) (x : Ext W H W' H') : SqL K H' a xs := by
  rcases h with ⟨n, h | ⟨o, h⟩⟩ | h
  · exact .inl (.inl (x.keep _ _ h n))
  · exact .inl (.inr ⟨o, x.keep _ _ h n⟩)
  · exact .inr h
end
def iSeq (K : PySem.W.Frag) (tl : TE) : TI := fun σ H R => tl σ H fun x H1 => ∃ a, x = .ref a ∧ (((∃ xs, SqL K H1 a xs) ∧ R (Itl K a) H1) ∨ ((∃ xs, SqT K H1 a xs) ∧ R (Itt K a) H1))
section
variable {X : Cx} {tg l : Expr}
theorem pi_seq {tl : TE} (hl : PE X l tl) : PI X tg l (iSeq X.K tl) := by
  intro pins s σ H R I h
  refine thn (hl pins s σ H _ I h) fun v s1 ⟨x, H1, I1, r1, q1⟩ => ?_
  obtain ⟨a, e, q⟩ := q1
  subst e
  cases r1
  rcases q with ⟨⟨xs, hq⟩, q⟩ | ⟨⟨xs, hq⟩, q⟩
  · obtain ⟨its, rv, p, hz⟩ := I1.list hq
    refine wpAny_pyIter_list p.isList ?_
    refine ⟨s1.heap.objs.size, [s1.heap.objs.size], _, _, H1, rfl, I1.kept (t' := s1.toks) fun b o e => Heap.get?_push_of_some _ e, turn_list a _, ⟨_, Heap.get?_push_size _ rfl, rfl, rfl⟩, fun b hb => ?_, q⟩
    have e : b = s1.heap.objs.size := by simpa using hb
    subst e
    exact I1.fpOk (Nat.le_refl _) (I1.hok.fresh (Nat.le_refl _))
  · obtain ⟨its, rv, p, hz⟩ := I1.tuple hq
    refine wpAny_pyIter_tuple (show s1.heap.IsTuple a its.toArray from p) ?_
    refine ⟨s1.heap.objs.size, [s1.heap.objs.size], _, _, H1, rfl, I1.kept (t' := s1.toks) fun b o e => Heap.get?_push_of_some _ e, turn_tuple a _, ⟨_, Heap.get?_push_size _ rfl, rfl, rfl⟩, fun b hb => ?_, q⟩
    have e : b = s1.heap.objs.size := by simpa using hb
    subst e
    exact I1.fpOk (Nat.le_refl _) (I1.hok.fresh (Nat.le_refl _))
end
/-- the sources: what is walked -/
def tI (K : PySem.W.Frag) (fn : Nat → List D → Option SV) (rng : Bool) (src : Es) : TI := fun σ H R0 => ∃ W ρ rs ds, R K W ρ σ H ∧ evEs fn src ρ = some rs ∧ itemsOf rng rs = some ds ∧
  ∀ J H', Same H H' → Ys K J W H' ds → (rs.any SV.lent = false → Yl K J W H' ds) → R0 J H'
structure Src (X : Cx) (fn : Nat → List D → Option SV) (tg e : Expr) (rng : Bool) (src : Es) : Prop where
  h : PI X tg e (tI X.K fn rng src)
theorem _root_.L2.PI.imp {X : Cx} {tg l : Expr} {t t' : TI} (h : PI X tg l t) (i : ∀ σ H Q, t' σ H Q → t σ H Q) : PI X tg l t' := fun pins s σ H Q I q => h pins s σ H Q I (i σ H Q q)
section
variable {X : Cx} {fn : Nat → List D → Option SV} {fuel : Nat} {a b c e tg : Expr} {ca cb cc ce : E} {es : List Expr} {cs : Es} {pos p : Pos} {x : Str}
theorem src_seq (he : IE X fn e ce) : Src X fn tg e false (.cons ce .nil) :=
  .mk <| (pi_seq he.v).imp fun σ H R0 ⟨W, ρ, rs, ds, hR, h1, h2, q⟩ => by
    simp only [evEs, Option.bind_eq_some_iff, Option.map_eq_some_iff] at h1
    obtain ⟨r, e1, rs', e3, rfl⟩ := h1
    cases e3
    simp only [itemsOf] at h2
    refine ⟨W, ρ, r, hR, e1, fun v H1 s1 f => ?_⟩
    unfold seqOf at h2
    split at h2
    · rename_i l hd
      cases h2
      have hs := f.sees
      rw [hd] at hs
      obtain ⟨a, xs, rfl, hq, rp⟩ := hs.tupH
      refine ⟨a, rfl, .inr ⟨⟨xs, .of hq⟩, q _ H1 s1 (fun W' H' s w k => itt_at (.of (s _ _ hq)) (rp.ext (.sameW s w)) k) fun _ W' H' x k => itt_at (.of (x.tup _ _ hq)) (rp.ext x) k⟩⟩
    · rename_i l hd
      cases h2
      have hs := f.sees
      rw [hd] at hs
      obtain ⟨a, xs, rfl, hq, rp⟩ := hs.lst
      refine ⟨a, rfl, .inl ⟨⟨xs, hq⟩, q _ H1 s1 (fun W' H' s w k => itl_at (s.seq hq) (rp.ext (.sameW s w)) k) fun hl W' H' x k => ?_⟩⟩
      have hl' : r.lent = false := by simpa using hl
      cases f with
      | val h =>
        change _ = D.lst _ at hd
        subst hd
        cases h with
        | lst h r' => exact itl_at (sqL_ext h x) (r'.ext x) k
      | lis h e r' =>
        change _ = D.lst _ at hd
        subst hd
        cases r' with
        | lst r' => exact itl_at (.of (x.keep _ _ e h)) (r'.ext x) k
      | see h e r' => simp [SV.lent] at hl'
    · cases h2
theorem src_rng1 (hg : Gl X "range") (hm : X.mg "range" = Option.none) (ha : IA X fn [a] (.cons ca .nil)) (hs : starEach [a] X.env = (false, eval a X.env) :: starEach [] X.env) : Src X fn tg (.Call (.Name "range" p) [a] [] pos) true (.cons ca .nil) :=
  .mk <| (pi_range1 hg hm ha.h hs).imp fun σ H R0 ⟨W, ρ, rs, ds, hR, h1, h2, q⟩ => by
    refine ⟨W, ρ, rs, hR, h1, fun vs H1 s1 f => ?_⟩
    simp only [evEs, Option.bind_eq_some_iff, Option.map_eq_some_iff] at h1
    obtain ⟨r, e1, rs', e3, rfl⟩ := h1
    cases e3
    obtain ⟨v, rfl, g⟩ : ∃ v, vs = [v] ∧ Frz X.K W H1 r v := by
      cases f with
      | cons f t => cases t; exact ⟨_, rfl, f⟩
    clear f
    cases g with
    | val g =>
      cases g with
      | int n =>
        simp only [itemsOf] at h2
        split at h2
        · rename_i hn
          cases h2
          exact ⟨n, rfl, hn.1, hn.2, q _ H1 s1 (fun W' H' s w k => itr_at k) fun _ W' H' x k => itr_at k⟩
        · cases h2
      | _ => simp [itemsOf] at h2
    | _ => simp [itemsOf] at h2
theorem src_rng2 (hg : Gl X "range") (hm : X.mg "range" = Option.none) (ha : IA X fn [a, b] (.cons ca (.cons cb .nil))) (hs : starEach [a, b] X.env = (false, eval a X.env) :: starEach [b] X.env) (hs2 : starEach [b] X.env = (false, eval b X.env) :: starEach [] X.env) :
    Src X fn tg (.Call (.Name "range" p) [a, b] [] pos) true (.cons ca (.cons cb .nil)) :=
  .mk <| (pi_range2 hg hm ha.h (by rw [hs, hs2]; rfl) hs2).imp fun σ H R0 ⟨W, ρ, rs, ds, hR, h1, h2, q⟩ => by
    refine ⟨W, ρ, rs, hR, h1, fun vs H1 s1 f => ?_⟩
    simp only [evEs, Option.bind_eq_some_iff, Option.map_eq_some_iff] at h1
    obtain ⟨r, e1, rs', ⟨r2, e2, rs'', e3, rfl⟩, rfl⟩ := h1
    cases e3
    obtain ⟨v, v2, rfl, g, f2⟩ : ∃ v v2, vs = [v, v2] ∧ Frz X.K W H1 r v ∧ Frz X.K W H1 r2 v2 := by
      cases f with
      | cons f t => cases t with
        | cons f' t => cases t; exact ⟨_, _, rfl, f, f'⟩
    clear f
    cases g with
    | val g =>
      cases f2 with
      | val f2 =>
        cases g with
        | int n =>
          cases f2 with
          | int m =>
            simp only [itemsOf] at h2
            split at h2
            · rename_i hn
              cases h2
              exact ⟨n, m, rfl, ⟨hn.1.1, hn.1.2, hn.2.1, hn.2.2⟩, q _ H1 s1 (fun W' H' s w k => itr_at k) fun _ W' H' x k => itr_at k⟩
            · cases h2
          | _ => simp [itemsOf] at h2
        | _ => simp [itemsOf] at h2
      | _ => simp [itemsOf] at h2
    | _ => simp [itemsOf] at h2
/-! ### loops -/
theorem drop_cons {α : Type} {l : List α} {k : Nat} {d : α} (h : l[k]? = some d) : l.drop k = d :: l.drop (k + 1) := by
  obtain ⟨h1, h2⟩ := List.getElem?_eq_some_iff.mp h
  rw [List.drop_eq_getElem_cons h1, h2]
theorem for_core {K : PySem.W.Frag} {J : It} {ds : List D} {i : Nat} {ex : LW.Env → Option (Fl × LW.Env)} {W : Addr → Prop} {ρ : LW.Env} {σ : St} {H : Hp} {x : Fl × LW.Env} {D0 : Ends} (hR : R K W ρ σ H) (hfr : ¬ isIo ρ i) (hy : Yl K J W H ds)
    (hx : forL i ex ds ρ = some x) (q : ∀ W' σ' H', SPost K W ρ σ H W' x.2 σ' H' → FlOk K W ρ σ W' x.2 σ' H' D0 x.1) :
    ∃ Wv : Nat → Nat → St → Hp → Prop, (∃ m, Wv 0 m σ H) ∧ ∀ k m σ' H', Wv k m σ' H' →
      (J.stop k H' ∧ D0.nx σ' H') ∨ (J.go k H' ∧ ∃ N : St → Hp → Prop, (∀ σ2 H2, N σ2 H2 → ∃ m', m' < m ∧ Wv (k + 1) m' σ2 H2) ∧ ∀ v H2, J.yld k H' v H2 → gName i v σ' H2 fun σ2 H2 => tSs K ex { D0 with nx := N, ct := N, bk := D0.nx } σ2 H2) := by
  refine ⟨fun k m σ' H' => m = ds.length - k ∧ k ≤ ds.length ∧ ∃ W' ρ', SPost K W ρ σ H W' ρ' σ' H' ∧ forL i ex (ds.drop k) ρ' = some x, ⟨_, rfl, Nat.zero_le _, W, ρ, .same hR (.refl H), hx⟩, ?_⟩
  rintro k m σ' H' ⟨rfl, hk, W', ρ', p, hf⟩
  obtain ⟨hstop, hgo⟩ := hy W' H' (p.ext hR) k
  by_cases hlt : k < ds.length
  · have hd : ds[k]? = some ds[k] := by simp [hlt]
    obtain ⟨g1, g2⟩ := hgo _ hd
    rw [drop_cons hd, forL, Option.bind_eq_some_iff] at hf
    obtain ⟨⟨fl, ρ2⟩, e1, e2⟩ := hf
    refine .inr ⟨g1, fun σ2 H2 => (ds.length - (k + 1)) = ds.length - (k + 1) ∧ k + 1 ≤ ds.length ∧ ∃ W' ρ', SPost K W ρ σ H W' ρ' σ2 H2 ∧ forL i ex (ds.drop (k + 1)) ρ' = some x, fun σ2 H2 h => ⟨_, by omega, h⟩, fun v H2 y => ?_⟩
    obtain ⟨rfl, rv⟩ := g2 v H2 y
    have p1 := post_set_val (i := i) p.r (.refl H2) rv fun z => hfr ((p.io i).1.mp z)
    have p01 := p.trans p1 hR
    refine ⟨W', _, (fl, ρ2), p1.r, e1, fun W3 σ3 H3 p3 => ?_⟩
    have p03 := p01.trans p3 hR
    cases fl with
    | nx => exact ⟨rfl, hlt, W3, ρ2, p03, e2⟩
    | ct => exact ⟨rfl, hlt, W3, ρ2, p03, e2⟩
    | br => cases e2; exact q W3 σ3 H3 p03
    | rt r => cases e2; exact fun v hv => q W3 σ3 H3 p03 v (hv.back p01)
  · have e : k = ds.length := by omega
    rw [List.drop_of_length_le (by omega), forL] at hf
    cases hf
    exact .inl ⟨hstop e, q W' σ' H' p⟩
variable {fa : Nat → List D → Option Ans} {sts : List Stmt} {ss : Ss}
theorem s_for (i : Nat) {rng : Bool} {src : Es} {px : Pos} (hp : PassesOwn (model X.prog X.w) X.A X.env X.xe) (hc : X.calm = true) (hN : X.N.Nodup) (hi : X.N[i]? = some x) (hx : Loc X.env.scope x) (hs : Src X (prj fa) (.Name x px) e rng src) (hb : ISs X (exSs fa fuel ss) sts)
    (hf : X.fn x = true ∨ X.env.scope.names.lookup x = some .local := by first | exact .inl rfl | exact .inr rfl | assumption) (hfo : ∀ x, foldedSetIterable e X.env x = pure x := by intro _; rfl) : IS X (exS fa fuel (.for_ i rng src ss)) (.For (.Name x px) e sts [] pos) :=
  .mk <| (ps_for hp hc hs.h (pg_name hN hi hx hf) hb.h hfo).imp fun D0 σ H ⟨W, ρ, y, hR, hy, q⟩ => by
    simp only [exS, Option.bind_eq_some_iff] at hy
    obtain ⟨rs, e1, e2⟩ := hy
    split at e2
    · cases e2
    · rename_i hl
      simp only [Bool.not_eq_true, Bool.or_eq_false_iff, Bool.not_eq_false'] at hl
      rw [Option.bind_eq_some_iff] at e2
      obtain ⟨ds, e3, e4⟩ := e2
      refine ⟨W, ρ, rs, ds, hR, e1, e3, fun J H1 s1 _ hyl => ?_⟩
      have p1 := SPost.same hR s1
      exact for_core p1.r (free_io hl.2) (hyl hl.1) e4 fun W' σ' H' p => FlOk.back p1 (q W' σ' H' (p1.trans p hR))
theorem s_forV (i j : Nat) {y : Str} {px : Pos} (hp : PassesOwn (model X.prog X.w) X.A X.env X.xe) (hc : X.calm = true) (hN : X.N.Nodup) (hi : X.N[i]? = some x) (hx : Loc X.env.scope x) (hj : X.N[j]? = some y) (hv : Vis X.env.scope y) (hb : ISs X (exSs fa fuel ss) sts)
    (hf : X.fn x = true ∨ X.env.scope.names.lookup x = some .local := by first | exact .inl rfl | exact .inr rfl | assumption) (hd : (y == ("__debug__" : Str)) = false := by decide) (hcd : (y == ("__classdict__" : Str)) = false := by decide)
    (hfo : ∀ x, foldedSetIterable (.Name y p) X.env x = pure x := by intro _; rfl) : IS X (exS fa fuel (.forV i j ss)) (.For (.Name x px) (.Name y p) sts [] pos) :=
  .mk <| (ps_for hp hc (pi_seq (pe_var hj hv hd hcd)) (pg_name hN hi hx hf) hb.h hfo).imp fun D0 σ H ⟨W, ρ, z, hR, hz, q⟩ => by
    simp only [exS] at hz
    split at hz
    case isFalse => cases hz
    rename_i hfr
    have hfr := free_io hfr
    simp only [Option.bind_eq_some_iff, freeze] at hz
    obtain ⟨⟨ds, ρ1⟩, e1, e2⟩ := hz
    split at e1
    · rename_i d h
      rw [Option.map_eq_some_iff] at e1
      obtain ⟨l, e3, e4⟩ := e1
      cases e4
      obtain ⟨v, h1, h2⟩ := hR.val j d h
      refine ⟨v, h1, ?_⟩
      unfold seqOf at e3
      split at e3
      · cases e3
        cases h2 with
        | tup hq rp => exact ⟨_, rfl, .inr ⟨⟨_, .of hq⟩, for_core hR hfr (fun W' H' x k => itt_at (.of (x.tup _ _ hq)) (rp.ext x) k) e2 q⟩⟩
      · cases e3
        cases h2 with
        | lst hq rp => exact ⟨_, rfl, .inl ⟨⟨_, hq.elim (fun z => .inl z.2) fun z => .inr z⟩, for_core hR hfr (fun W' H' x k => itl_at (sqL_ext hq x) (rp.ext x) k) e2 q⟩⟩
      · cases e3
    · rename_i o es h
      cases e1
      cases o with
      | false => exact absurd h (hR.nol j _)
      | true =>
      obtain ⟨a, xs, h1, h2, h3, h4⟩ := hR.own j _ _ h rfl
      cases h4 with
      | lst h4 =>
      obtain ⟨p1, rp⟩ := post_freeze hR h h1
      refine ⟨_, h1, a, rfl, .inl ⟨⟨_, .of h3⟩, ?_⟩⟩
      refine for_core p1.r (fun z => hfr ((p1.io i).1.mp z)) (fun W' H' x k => ?_) e2 fun W' σ' H' p => FlOk.back p1 (q W' σ' H' (p1.trans p hR))
      cases rp with
      | lst hq rp => exact itl_at (sqL_ext hq x) (rp.ext x) k
    · cases e1
theorem s_while (hp : PassesOwn (model X.prog X.w) X.A X.env X.xe) (hc : IT X (prj fa) c cc) (hb : ISs X (exSs fa fuel ss) sts) : IS X (exS fa fuel (.while_ cc ss)) (.While c sts [] pos) :=
  .mk <| (ps_while hp hc.h hb.h).imp fun D0 σ H ⟨W, ρ, y, hR, hy, q⟩ => by
    simp only [exS] at hy
    refine ⟨fun m σ' H' => ∃ W' ρ', SPost X.K W ρ σ H W' ρ' σ' H' ∧ whileL (evT (prj fa) cc) (exSs fa fuel ss) m ρ' = some y, ⟨fuel, W, ρ, .same hR (.refl H), hy⟩, ?_⟩
    rintro m σ' H' ⟨W', ρ', p, hw⟩
    cases m with
    | zero => simp [whileL] at hw
    | succ m =>
      rw [whileL, Option.bind_eq_some_iff] at hw
      obtain ⟨k, e1, e2⟩ := hw
      refine ⟨W', ρ', k, p.r, e1, fun H1 s1 => ?_⟩
      have p1 := SPost.same p.r s1
      have p01 := p.trans p1 hR
      cases k with
      | false =>
        rw [if_neg Bool.false_ne_true] at e2
        cases e2
        exact iteF (q W' σ' H1 p01)
      | true =>
        rw [if_pos rfl] at e2
        rw [Option.bind_eq_some_iff] at e2
        obtain ⟨⟨fl, ρ2⟩, e3, e4⟩ := e2
        refine iteT ⟨fun σ2 H2 => ∃ W' ρ', SPost X.K W ρ σ H W' ρ' σ2 H2 ∧ whileL (evT (prj fa) cc) (exSs fa fuel ss) m ρ' = some y, fun σ2 H2 h => ⟨m, Nat.lt_succ_self m, h⟩, ?_⟩
        refine ⟨W', ρ', (fl, ρ2), p1.r, e3, fun W3 σ3 H3 p3 => ?_⟩
        have p03 := p01.trans p3 hR
        cases fl with
        | nx => exact ⟨W3, ρ2, p03, e4⟩
        | ct => exact ⟨W3, ρ2, p03, e4⟩
        | br => cases e4; exact q W3 σ3 H3 p03
        | rt r => cases e4; exact fun v hv => q W3 σ3 H3 p03 v (hv.back p01)
end
/-! ### a def -/
theorem args0_get (io : List Nat) : ∀ (ds : List D) (k i : Nat), (args0 io k ds)[i]? = (ds[i]?).map fun d => some (if io.contains (k + i) then SV.io d else .val d)
  | [], k, i => by simp [args0]
  | d :: r, k, 0 => by simp [args0]
  | d :: r, k, i + 1 => by
    rw [args0, List.getElem?_cons_succ, args0_get io r (k + 1) i, List.getElem?_cons_succ]
    have : k + 1 + i = k + (i + 1) := by omega
    rw [this]
theorem args0_len (io : List Nat) : ∀ (ds : List D) (k : Nat), (args0 io k ds).length = ds.length
  | [], k => rfl
  | d :: r, k => by simp [args0, args0_len io r (k + 1)]
theorem vals_at {io : List Nat} {ds : List D} {n : Nat} {i : Nat} {x : SV} (h : (args0 io 0 ds ++ List.replicate n Option.none)[i]? = some (some x)) :
    ∃ d, ds[i]? = some d ∧ x = if io.contains i then SV.io d else .val d := by
  by_cases hi : i < ds.length
  · rw [List.getElem?_append_left (by rw [args0_len]; exact hi), args0_get, Option.map_eq_some_iff] at h
    obtain ⟨d, e1, e2⟩ := h
    rw [Nat.zero_add] at e2
    exact ⟨d, e1, (Option.some.inj e2).symm⟩
  · rw [List.getElem?_append_right (by rw [args0_len]; omega)] at h
    rw [List.getElem?_replicate] at h
    split at h <;> cases h
theorem start_at {N : List Str} {vs : List V} {i : Nat} {v : V} (h : vs[i]? = some v) : (start N vs)[i]? = some (some v) := by
  have hi : i < vs.length := (List.getElem?_eq_some_iff.mp h).1
  unfold start
  rw [List.getElem?_append_left (by simpa using hi), List.getElem?_map, h]
  rfl
theorem outs_ok {K : PySem.W.Frag} {W W' : Addr → Prop} {H' : Hp} {ρ' : LW.Env} {σ' : St} {vs : List V} (hR : R K W' ρ' σ' H') (sub : ∀ b, W b → W' b) : ∀ {io : List Nat} {outs : List D}, outsOf ρ' io = some outs → (∀ k ∈ io, isIo ρ' k → ∃ a, σ'[k]? = some (some (.ref a)) ∧ vs[k]? = some (.ref a)) → Outs K W H' io vs outs
  | [], outs, e, _ => by simp only [outsOf] at e; cases e; exact .nil
  | k :: r, outs, e, hs => by
    simp only [outsOf] at e
    split at e
    · rename_i d h
      rw [Option.map_eq_some_iff] at e
      obtain ⟨l, e1, rfl⟩ := e
      obtain ⟨a, h1, h2⟩ := hs k List.mem_cons_self ⟨d, h⟩
      obtain ⟨a', o, h3, _, h5, h6⟩ := hR.own k _ d h rfl
      rw [h1] at h3; cases h3
      exact .cons ⟨a, o, h2, h5, h6.less sub⟩ (outs_ok hR sub e1 fun j hj => hs j (List.mem_cons_of_mem _ hj))
    · cases e
theorem fn_ok {Pg : Program} {w : World} {K : PySem.W.Frag} {mg : Str → Option Value} {base : Heap} {x qual : Str} {st : Stmt} {f : Addr} {fd : FuncData} {N ps : List Str} {k n i : Nat} {P : Nat → Option Fn} {fuel : Nat} {F0 : Fn} {io : List Nat}
    (F : Fun K x qual st f fd) (S : FnScope N ps (defScope st)) (hP : P i = some F0) (hnp : F0.np = ps.length) (hnl : F0.nl = N.length) (hio : F0.io = io) (hiop : io.all (fun k => decide (k < F0.np)) = true)
    (hbody : ∀ (cdv : Value) (A : Around) (outer : List PySem.Env) (s : Shared) (H : Hp) (E : XK), Room k (A.deeper (envOfC qual (defScope st) s.heap.objs.size f cdv)) →
      ISs (cxOf CX0 Pg w K mg base N qual (defScope st) f cdv A outer s H E).nox (exSs (callA P fuel n) fuel F0.body) (defBody st)) :
    FnOk Pg w K mg base CX0 (k + 1) f fd ps (spA K (callA P fuel (n + 1)) i io) := by
  subst hio
  have dec : ∀ {ds : List D} {r : Ans}, callA P fuel (n + 1) i ds = some r → ds.length = F0.np ∧ endA F0.io (exSs (callA P fuel n) fuel F0.body (args0 F0.io 0 ds ++ List.replicate (F0.nl - F0.np) Option.none)) = some r := fun {ds r} h => by
    rw [callA, hP] at h
    simp only [Option.bind_some] at h
    split at h
    · exact ⟨by assumption, h⟩
    · cases h
  refine F.ok S (fun vs H Q E h => ?_) (fun cdv A outer s H vs Q E hr h => ⟨_, (hbody cdv A outer s H E hr).h, ?_⟩)
  · obtain ⟨W, ds, r, outs, wf, rp, e, _⟩ := h
    rw [← rp.len, (dec e).1, hnp]
  · obtain ⟨W, ds, r, outs, wf, rp, e, q⟩ := h
    obtain ⟨hl, he⟩ := dec e
    have hlv := rp.len
    have hplN : ps.length ≤ N.length := by have := congrArg List.length S.pre; rw [List.length_take] at this; omega
    generalize hρ : args0 F0.io 0 ds ++ List.replicate (F0.nl - F0.np) Option.none = ρ at he
    have at_ : ∀ {j : Nat} {x : SV}, ρ[j]? = some (some x) → ∃ d, ds[j]? = some d ∧ x = if F0.io.contains j then SV.io d else .val d := fun {j x} h => by rw [← hρ] at h; exact vals_at h
    have own_io : ∀ a, Own ρ (start N vs) a → ioV F0.io vs a := fun a ⟨j, x, d, h1, hc, h2⟩ => by
      obtain ⟨d', e1, e2⟩ := at_ h1
      split at e2
      · rename_i hj
        have hj : j ∈ F0.io := by simpa using hj
        obtain ⟨b, o, h3, _⟩ := rp.obj j d' e1 hj
        rw [start_at h3] at h2
        cases h2
        exact ⟨j, hj, h3⟩
      · subst e2; cases hc
    have hR : R K W ρ (start N vs) H := by
      refine ⟨fun j d h => ?_, fun j d h => ?_, fun j x d h hc => ?_, fun j k x y d e a h1 h2 c1 c2 h3 h4 => ?_, wf, ?_⟩
      · obtain ⟨d', e1, e2⟩ := at_ h
        split at e2
        · cases e2
        · rename_i hj
          cases e2
          obtain ⟨v, h1, h2⟩ := rp.val j d e1 (by simpa using hj)
          exact ⟨v, start_at h1, h2⟩
      · obtain ⟨d', e1, e2⟩ := at_ h
        split at e2 <;> cases e2
      · obtain ⟨d', e1, e2⟩ := at_ h
        split at e2
        · rename_i hj
          subst e2; cases hc
          obtain ⟨b, o, h3, h4, h5, h6⟩ := rp.obj j d e1 (by simpa using hj)
          exact ⟨b, o, start_at h3, h4, h5, h6⟩
        · subst e2; cases hc
      · obtain ⟨d1, e1, e2⟩ := at_ h1
        obtain ⟨d2, e3, e4⟩ := at_ h2
        split at e2
        · rename_i hj
          split at e4
          · rename_i hk
            have hj : j ∈ F0.io := by simpa using hj
            have hk : k ∈ F0.io := by simpa using hk
            obtain ⟨b, o, z1, _⟩ := rp.obj j d1 e1 hj
            obtain ⟨b', o', z2, _⟩ := rp.obj k d2 e3 hk
            rw [start_at z1] at h3; cases h3
            rw [start_at z2] at h4; cases h4
            exact rp.inj j k _ hj hk z1 z2
          · subst e4; cases c2
        · subst e2; cases c1
      · rw [← hρ]
        unfold start
        rw [List.length_append, List.length_append, args0_len, List.length_map, List.length_replicate, List.length_replicate]
        omega
    cases hx : exSs (callA P fuel n) fuel F0.body ρ with
    | none => rw [hx] at he; cases he
    | some y =>
      rw [hx] at he
      obtain ⟨fl, ρ'⟩ := y
      refine ⟨W, ρ, (fl, ρ'), hR, hx, fun W' σ' H' p => ?_⟩
      have kp : ∀ a o, H a = some o → ¬ ioV F0.io vs a → H' a = some o := fun b o h n => p.keep b o h fun z => n (own_io b z)
      have io_at : ∀ k ∈ F0.io, isIo ρ' k → ∃ a, σ'[k]? = some (some (.ref a)) ∧ vs[k]? = some (.ref a) := fun j hj z => by
        have z0 := (p.io j).1.mp z
        obtain ⟨d0, z1⟩ := z0
        obtain ⟨d', e1, e2⟩ := at_ z1
        obtain ⟨b, o, h3, _⟩ := rp.obj j d' e1 hj
        exact ⟨b, by rw [(p.io j).2 ⟨d0, z1⟩, start_at h3], h3⟩
      have sub : ∀ b, W b → W' b := fun b w => by
        by_cases hb : Own ρ (start N vs) b
        · obtain ⟨j, x, d, h1, hc, h2⟩ := hb
          obtain ⟨d', e1, e2⟩ := at_ h1
          split at e2
          · subst e2
            obtain ⟨d2, z⟩ := (p.io j).1.mpr ⟨d', h1⟩
            obtain ⟨a', o, h3, h4, _⟩ := p.r.own j _ d2 z rfl
            rw [(p.io j).2 ⟨d', h1⟩, h2] at h3
            cases h3
            exact h4
          · subst e2; cases hc
        · exact (p.wout b w hb).1
      cases fl with
      | br => cases he
      | ct => cases he
      | nx =>
        simp only [endA, Option.map_eq_some_iff] at he
        obtain ⟨l, e1, e2⟩ := he
        cases e2
        exact q _ H' kp (outs_ok p.r sub e1 io_at) (.val .non)
      | rt r' =>
        simp only [endA, Option.map_eq_some_iff] at he
        obtain ⟨l, e1, e2⟩ := he
        cases e2
        intro v hv
        have ho := outs_ok p.r sub e1 io_at
        cases hv with
        | val h => exact q v H' kp ho (.val (h.less sub))
        | new h nn n' eL rr =>
          have ha := (p.win _ h).resolve_left fun w => nn ⟨w, fun ⟨j, x, d, h1, hc, h2⟩ => by
            obtain ⟨d', e1, e2⟩ := at_ h1
            split at e2
            · subst e2; exact n' ⟨j, ⟨d', h1⟩, h2⟩
            · subst e2; cases hc⟩
          refine q _ H' kp ho (.new ha eL (rr.less fun b w => ?_))
          rcases w with w | rfl
          · exact sub b w
          · exact h
end L2.LW
set_option linter.all false
set_option maxHeartbeats 4000000
namespace L2.LW
open PySem PySem.Spec PyProof.Rows
/-! ### the cells that a comprehension closes over -/
def clos (env : PySem.Env) : List (Str × NameKind) → List (Str × Addr) → List (Str × Addr)
  | [], acc => acc
  | (n, k) :: r, acc => if k == .free then clos env r ((n, (env.cells.lookup n).getD 0) :: acc) else clos env r acc
theorem forIn_clos (env : PySem.Env) : ∀ (names : List (Str × NameKind)) (acc : List (Str × Addr)), (∀ y ∈ names, y.2 = .free → (env.cells.lookup y.1).isSome = true) →
    (forIn names acc fun (x : Str × NameKind) (cs : List (Str × Addr)) => (if (x.2 == NameKind.free) = true then (do let c ← cellOf env x.1; pure (ForInStep.yield ((x.1, c) :: cs)) : Sem (ForInStep (List (Str × Addr)))) else pure (ForInStep.yield cs))) = (pure (clos env names acc) : Sem (List (Str × Addr)))
  | [], acc, _ => rfl
  | (n, k) :: r, acc, h => by
    have ih := fun acc => forIn_clos env r acc fun y hy => h y (List.mem_cons_of_mem _ hy)
    rw [List.forIn_cons]
    by_cases hk : (k == NameKind.free) = true
    · have hs := h (n, k) List.mem_cons_self (by simpa using hk)
      obtain ⟨c, hc⟩ := Option.isSome_iff_exists.mp hs
      have hc : env.cells.lookup n = some c := hc
      simp only [hk, if_true, cellOf, hc, clos, Option.getD_some]
      show (forIn r ((n, c) :: acc) _ : Sem _) = _
      exact ih _
    · simp only [hk, if_false, clos]
      show (forIn r acc _ : Sem _) = _
      exact ih _
theorem closureFor_clos {scope : Scope} {env : PySem.Env} (h : ∀ y ∈ scope.names, y.2 = .free → (env.cells.lookup y.1).isSome = true) : closureFor scope env = pure (clos env scope.names []) := by
  have key : closureFor scope env = ((forIn scope.names ([] : List (Str × Addr)) fun (x : Str × NameKind) (cs : List (Str × Addr)) =>
    (if (x.2 == NameKind.free) = true then (do let c ← cellOf env x.1; pure (ForInStep.yield ((x.1, c) :: cs)) : Sem (ForInStep (List (Str × Addr)))) else pure (ForInStep.yield cs))) >>= fun cs => pure cs) := rfl
  rw [key, forIn_clos env scope.names [] h]
  rfl
theorem clos_lookup {env : PySem.Env} {y : Str} {c : Addr} : ∀ {names : List (Str × NameKind)} {acc : List (Str × Addr)}, (∀ z ∈ names, z.2 = .free → (env.cells.lookup z.1).isSome = true) → (clos env names acc).lookup y = some c →
    acc.lookup y = some c ∨ env.cells.lookup y = some c
  | [], _, _, e => .inl e
  | (n, k) :: r, acc, h, e => by
    unfold clos at e
    split at e
    · rename_i hk
      rcases clos_lookup (fun z hz => h z (List.mem_cons_of_mem _ hz)) e with q | q
      · rw [List.lookup_cons] at q
        split at q
        · rename_i hy
          have hy : y = n := by simpa using hy
          subst hy
          obtain ⟨c', hc⟩ := Option.isSome_iff_exists.mp (h (y, k) List.mem_cons_self (by simpa using hk))
          have hc : env.cells.lookup y = some c' := hc
          rw [hc] at q
          cases q
          exact .inr hc
        · exact .inl q
      · exact .inr q
    · exact clos_lookup (fun z hz => h z (List.mem_cons_of_mem _ hz)) e
theorem clos_has {env : PySem.Env} {y : Str} : ∀ {names : List (Str × NameKind)} {acc : List (Str × Addr)}, ((acc.lookup y).isSome = true ∨ (y, NameKind.free) ∈ names) → ((clos env names acc).lookup y).isSome = true
  | [], acc, h => by
    rcases h with h | h
    · exact h
    · cases h
  | (n, k) :: r, acc, h => by
    unfold clos
    split
    · rename_i hk
      refine clos_has ?_
      by_cases e : y = n
      · subst e; exact .inl (by simp)
      · have hb : (y == n) = false := by simpa using e
        rcases h with h | h
        · exact .inl (by rw [List.lookup_cons, hb]; exact h)
        · rcases List.mem_cons.mp h with z | z
          · cases z; exact absurd rfl e
          · exact .inr z
    · rename_i hk
      refine clos_has ?_
      rcases h with h | h
      · exact .inl h
      · rcases List.mem_cons.mp h with z | z
        · cases z; exact absurd rfl hk
        · exact .inr z
/-! ### the block's context -/
def hide (x : Str) (N : List Str) : List Str := N.map fun y => if y = x then ("" : Str) else y
/-- its own name may be a cell (a comprehension within captures it) -/
def cellsX (scope : Scope) (x : Str) (c : Addr) (cl : List (Str × Addr)) : List (Str × Addr) := if scope.names.lookup x = some .cell then (x, c) :: cl else cl
def compX (X : Cx) (scope : Scope) (x : Str) (s₃ : Shared) (H₃ : Hp) (fp : List Addr) (pins : List (Addr × Obj)) : Cx :=
  { X with N := x :: hide x X.N, s₀ := s₃, H₀ := H₃, env := compEnvC scope (cellsX scope x (s₃.heap.objs.size + 1) (clos X.env scope.names [])) s₃.heap.objs.size X.env, outer := X.stack, stack := X.stack, ex := fp, fn := fun y => decide (y = x) && decide (scope.names.lookup x = some .cell), pn := X.pn ++ pins, xe := fun _ _ => False }
/-- what a comprehension's scope must be -/
structure CompSc (X : Cx) (scope : Scope) (x : Str) : Prop where
  kind : scope.kind = .function
  loc : scope.names.lookup x = some .local ∨ scope.names.lookup x = some .cell
  names : ∀ y ∈ scope.names, y.2 = .local → scope.names.lookup y.1 = some .local
  cell1 : scope.names.filter (fun y => y.2 == .cell) = if scope.names.lookup x = some .cell then [(x, .cell)] else []
  free : ∀ y ∈ scope.names, y.2 = .free → X.env.scope.names.lookup y.1 = some .cell ∨ X.env.scope.names.lookup y.1 = some .free
  own : ∀ y ∈ X.N, scope.names.lookup y = some .local → y = x
  none : scope.names.lookup ("" : Str) = Option.none
  nd : (x :: hide x X.N).Nodup
theorem lookup_mem {y : Str} {k : NameKind} : ∀ {l : List (Str × NameKind)}, l.lookup y = some k → (y, k) ∈ l
  | [], h => by cases h
  | (n, j) :: r, h => by
    rw [List.lookup_cons] at h
    split at h
    · rename_i e
      have e : y = n := by simpa using e
      cases h; subst e
      exact List.mem_cons_self
    · exact List.mem_cons_of_mem _ (lookup_mem h)
theorem relabel_lookup {env : PySem.Env} {y : Str} {k : NameKind} : ∀ {names : List (Str × NameKind)},
    (names.map fun (z : Str × NameKind) => match z with | (n, k) => if (k == NameKind.free && env.scope.kind == .function && env.kindOf n == some .cell) = true then (n, NameKind.cell) else (n, k)).lookup y = some k →
    names.lookup y = some k ∨ (k = .cell ∧ names.lookup y = some .free)
  | [], h => by cases h
  | (n, j) :: r, h => by
    rw [List.map_cons, List.lookup_cons] at h
    rw [List.lookup_cons]
    by_cases hc : (j == NameKind.free && env.scope.kind == .function && env.kindOf n == some .cell) = true
    · simp only [hc, if_true] at h
      cases e : y == n with
      | true =>
        rw [e] at h
        cases h
        have hj : j = .free := by
          simp only [Bool.and_eq_true] at hc
          simpa using hc.1.1
        exact .inr ⟨rfl, by rw [hj]⟩
      | false => rw [e] at h; exact relabel_lookup h
    · simp only [hc, Bool.false_eq_true, if_false] at h
      cases e : y == n with
      | true => rw [e] at h; exact .inl h
      | false => rw [e] at h; exact relabel_lookup h
section
variable {X : Cx} {scope : Scope} {x : Str} {s₃ : Shared} {H₃ : Hp} {fp : List Addr} {pins : List (Addr × Obj)} {σ : St}
theorem CompSc.onlyC (S : CompSc X scope x) {y : Str} (h : scope.names.lookup y = some .cell) : y = x ∧ scope.names.lookup x = some .cell := by
  have hm : (y, NameKind.cell) ∈ scope.names.filter (fun y => y.2 == .cell) := List.mem_filter.mpr ⟨lookup_mem h, rfl⟩
  rw [S.cell1] at hm
  split at hm
  · simp at hm; subst hm; exact ⟨rfl, h⟩
  · cases hm
theorem cellsFrom_one {x : Str} : ∀ (names : List (Str × NameKind)) (a : Nat) (acc : List (Str × Addr)) (h : Heap), names.filter (fun y => y.2 == .cell) = [(x, .cell)] → cellsFrom a names acc = (x, a) :: acc ∧ pushCells h names = h.push { cls := .type "cell", data := .cell Option.none }
  | [], _, _, _, e => by cases e
  | (n, k) :: r, a, acc, h, e => by
    have none_ : ∀ (names : List (Str × NameKind)) (a : Nat) (acc : List (Str × Addr)) (h : Heap), names.filter (fun y => y.2 == .cell) = [] → cellsFrom a names acc = acc ∧ pushCells h names = h := by
      intro names
      induction names with
      | nil => intro a acc h _; exact ⟨rfl, rfl⟩
      | cons y r ih =>
        intro a acc h e
        obtain ⟨n, k⟩ := y
        rw [List.filter_cons] at e
        split at e
        · cases e
        · rename_i hk
          have hk : (k == NameKind.cell) = false := by simpa using hk
          unfold cellsFrom pushCells
          rw [hk]
          exact ih a acc h e
    rw [List.filter_cons] at e
    split at e
    · rename_i hk
      injection e with e1 e2
      cases e1
      unfold cellsFrom pushCells
      simp only [beq_self_eq_true, if_true]
      exact none_ r _ _ _ e2
    · rename_i hk
      have hk : (k == NameKind.cell) = false := by simpa using hk
      unfold cellsFrom pushCells
      rw [hk]
      exact cellsFrom_one r a acc h e
theorem cellsFrom_none : ∀ (names : List (Str × NameKind)) (a : Nat) (acc : List (Str × Addr)) (h : Heap), names.filter (fun y => y.2 == .cell) = [] → cellsFrom a names acc = acc ∧ pushCells h names = h
  | [], _, _, _, _ => ⟨rfl, rfl⟩
  | (n, k) :: r, a, acc, h, e => by
    rw [List.filter_cons] at e
    split at e
    · cases e
    · rename_i hk
      have hk : (k == NameKind.cell) = false := by simpa using hk
      unfold cellsFrom pushCells
      rw [hk]
      exact cellsFrom_none r a acc h e
/-- the block's frame is made -/
theorem newEnv_comp {M : Model} {A : Around} {E : Value → Shared → Prop} {s : Shared} {globals : Addr} {cl : List (Str × Addr)} {qual : Str} {env : PySem.Env} {Q : PySem.Env → Shared → Prop} (S : CompSc X scope x)
    (h : ∀ h₁, h₁.Ns s.heap.objs.size (fun _ => Option.none) → (∀ b o, s.heap.get? b = some o → h₁.get? b = some o) → (scope.names.lookup x = some .cell → h₁.IsCell (s.heap.objs.size + 1) Option.none) →
      Q (newEnv scope s.heap.objs.size globals (cellsX scope x (s.heap.objs.size + 1) cl) qual Option.none .none (some env) builtinsNs) { s with heap := h₁ }) :
    wpAny M A (newFunctionEnv scope globals cl [] qual Option.none .none (some env)) Q E s := by
  simp only [newFunctionEnv, Option.isSome_some, if_true]
  refine wpAny_bind (wpAny_alloc ?_)
  refine wpAny_bind (wpAny_layCells _ (fun name kind cells => by cases hkc : kind == NameKind.cell <;> simp [hkc]) _ _ _ _ ?_)
  rw [List.forIn_nil]
  refine wpAny_bind (wpAny_pure (wpAny_pure ?_))
  rw [show ({ s with heap := s.heap.push { cls := .type "dict", data := .dict #[] } } : Shared).heap.objs.size = s.heap.objs.size + 1 from Heap.size_push ..]
  have hc := S.cell1
  by_cases hx : scope.names.lookup x = some .cell
  · rw [if_pos hx] at hc
    obtain ⟨e1, e2⟩ := cellsFrom_one (x := x) scope.names (s.heap.objs.size + 1) cl (s.heap.push { cls := .type "dict", data := .dict #[] }) hc
    have h' := h (pushCells (s.heap.push { cls := .type "dict", data := .dict #[] }) scope.names) ((Heap.Ns.new s.heap (.type "dict")).keeps (pushCells_keeps _ _)) (fun b o e => pushCells_keeps _ _ b o (Heap.get?_push_of_some _ e)) (fun _ => by
      rw [e2]
      have : (s.heap.push { cls := .type "dict", data := .dict #[] }).objs.size = s.heap.objs.size + 1 := Heap.size_push ..
      rw [← this]
      exact ⟨_, Heap.get?_push_size _ rfl, rfl⟩)
    rw [e1]
    unfold cellsX at h'
    rw [if_pos hx] at h'
    exact h'
  · rw [if_neg hx] at hc
    obtain ⟨e1, e2⟩ := cellsFrom_none scope.names (s.heap.objs.size + 1) cl (s.heap.push { cls := .type "dict", data := .dict #[] }) hc
    have h' := h (pushCells (s.heap.push { cls := .type "dict", data := .dict #[] }) scope.names) ((Heap.Ns.new s.heap (.type "dict")).keeps (pushCells_keeps _ _)) (fun b o e => pushCells_keeps _ _ b o (Heap.get?_push_of_some _ e)) (fun z => absurd z hx)
    rw [e1]
    unfold cellsX at h'
    rw [if_neg hx] at h'
    exact h'
theorem CompSc.cells (S : CompSc X scope x) (ok : X.Ok) : ∀ y ∈ scope.names, y.2 = .free → (X.env.cells.lookup y.1).isSome = true := fun y hy hk => by
  obtain ⟨c, hc⟩ := ok.has y.1 (S.free y hy hk)
  rw [hc]; rfl
theorem CompSc.look (S : CompSc X scope x) (ok : X.Ok) {y : Str} {c : Addr} (h : (compX X scope x s₃ H₃ fp pins).env.cells.lookup y = some c) :
    (y = x ∧ scope.names.lookup x = some .cell ∧ c = s₃.heap.objs.size + 1) ∨ ((y ≠ x ∨ scope.names.lookup x ≠ some .cell) ∧ X.env.cells.lookup y = some c) := by
  have h : (cellsX scope x (s₃.heap.objs.size + 1) (clos X.env scope.names [])).lookup y = some c := h
  have old : (clos X.env scope.names []).lookup y = some c → X.env.cells.lookup y = some c := fun h => by
    rcases clos_lookup (S.cells ok) h with q | q
    · cases q
    · exact q
  unfold cellsX at h
  split at h
  · rename_i hc
    rw [List.lookup_cons] at h
    split at h
    · rename_i e
      cases h
      exact .inl ⟨by simpa using e, hc, rfl⟩
    · rename_i e
      exact .inr ⟨.inl (by simpa using e), old h⟩
  · rename_i hc
    exact .inr ⟨.inr hc, old h⟩
theorem CompSc.kindOf (S : CompSc X scope x) {y : Str} (h : (compX X scope x s₃ H₃ fp pins).env.kindOf y = some .cell ∨ (compX X scope x s₃ H₃ fp pins).env.kindOf y = some .free) : scope.names.lookup y = some .free ∨ (y = x ∧ scope.names.lookup x = some .cell) := by
  rcases h with h | h
  · rcases relabel_lookup (show _ = _ from h) with q | ⟨_, q⟩
    · exact .inr (S.onlyC q)
    · exact .inl q
  · rcases relabel_lookup (show _ = _ from h) with q | ⟨z, q⟩
    · exact .inl q
    · cases z
theorem CompSc.has (S : CompSc X scope x) {y : Str} (h : scope.names.lookup y = some .free) : ∃ c, (compX X scope x s₃ H₃ fp pins).env.cells.lookup y = some c ∧ (clos X.env scope.names []).lookup y = some c := by
  obtain ⟨c, hc⟩ := Option.isSome_iff_exists.mp (clos_has (env := X.env) (names := scope.names) (acc := []) (y := y) (.inr (lookup_mem h)))
  refine ⟨c, ?_, hc⟩
  show (cellsX scope x (s₃.heap.objs.size + 1) (clos X.env scope.names [])).lookup y = some c
  unfold cellsX
  split
  · rename_i hx
    have : (y == x) = false := by
      cases e : y == x with
      | false => rfl
      | true => have e : y = x := by simpa using e
                subst e; rw [h] at hx; cases hx
    rw [List.lookup_cons, this]
    exact hc
  · exact hc
theorem relabel_cell {env : PySem.Env} {y : Str} : ∀ {names : List (Str × NameKind)}, names.lookup y = some .cell →
    (names.map fun (z : Str × NameKind) => match z with | (n, k) => if (k == NameKind.free && env.scope.kind == .function && env.kindOf n == some .cell) = true then (n, NameKind.cell) else (n, k)).lookup y = some .cell
  | [], h => by cases h
  | (n, j) :: r, h => by
    rw [List.lookup_cons] at h
    rw [List.map_cons, List.lookup_cons]
    by_cases hc : (j == NameKind.free && env.scope.kind == .function && env.kindOf n == some .cell) = true
    · simp only [hc, if_true]
      cases e : y == n with
      | true => rfl
      | false => rw [e] at h; exact relabel_cell h
    · simp only [hc, Bool.false_eq_true, if_false]
      cases e : y == n with
      | true => rw [e] at h; exact h
      | false => rw [e] at h; exact relabel_cell h
theorem CompSc.locX (S : CompSc X scope x) : Loc (compX X scope x s₃ H₃ fp pins).env.scope x := by
  rcases S.loc with h | h
  · exact .inl (lookup_relabel_local h)
  · exact .inr (relabel_cell h)
theorem CompSc.fnX (S : CompSc X scope x) : (compX X scope x s₃ H₃ fp pins).fn x = true ∨ (compX X scope x s₃ H₃ fp pins).env.scope.names.lookup x = some .local := by
  rcases S.loc with h | h
  · exact .inr (lookup_relabel_local h)
  · left
    show (decide (x = x) && decide (scope.names.lookup x = some .cell)) = true
    simp [h]
theorem comp_ok (S : CompSc X scope x) (I : Inv X pins σ H₃ s₃) (hf : ∀ b ∈ fp, FpOk X pins H₃ b) (hlt : ∀ b ∈ fp, b < s₃.heap.objs.size) : (compX X scope x s₃ H₃ fp pins).Ok where
  mod := I.ok.mod
  kind := S.kind
  glob := I.ok.glob
  blt := I.ok.blt
  above := Nat.le_refl _
  inj := fun y z c h1 h2 => by
    have old : ∀ {y : Str} {c : Addr}, X.env.cells.lookup y = some c → c < s₃.heap.objs.size := fun {y c} h => by
      obtain ⟨v, o, ho, _⟩ := I.cell y c h
      exact Heap.lt_size ho
    rcases S.look I.ok h1 with ⟨e1, _, e2⟩ | ⟨_, q1⟩
    · rcases S.look I.ok h2 with ⟨e3, _, e4⟩ | ⟨_, q2⟩
      · rw [e1, e3]
      · have := old q2; rw [e2] at this; exact absurd this (Nat.not_lt.mpr (Nat.le_succ _))
    · rcases S.look I.ok h2 with ⟨e3, _, e4⟩ | ⟨_, q2⟩
      · have := old q1; rw [e4] at this; exact absurd this (Nat.not_lt.mpr (Nat.le_succ _))
      · exact I.ok.inj y z c q1 q2
  has := fun y h => by
    rcases S.kindOf h with q | ⟨q1, q2⟩
    · obtain ⟨c, hc, _⟩ := S.has (s₃ := s₃) (H₃ := H₃) (fp := fp) (pins := pins) q
      exact ⟨c, hc⟩
    · refine ⟨s₃.heap.objs.size + 1, ?_⟩
      show (cellsX scope x (s₃.heap.objs.size + 1) (clos X.env scope.names [])).lookup y = _
      unfold cellsX
      rw [if_pos q2, q1, List.lookup_cons, beq_self_eq_true]
  cab := fun y c h hc => by
    have h : (decide (y = x) && decide (scope.names.lookup x = some .cell)) = true := h
    rw [Bool.and_eq_true, decide_eq_true_iff, decide_eq_true_iff] at h
    rcases S.look I.ok hc with ⟨_, _, e⟩ | ⟨q, _⟩
    · rw [e]; exact Nat.le_succ _
    · exact absurd h (fun z => q.elim (fun w => w z.1) fun w => w z.2)
  hd := I.ok.hd
  frames := I.ok.frames
  stk := .inl rfl
  exf := fun b hb => ⟨Nat.ne_of_lt (hlt b hb), fun y c h => by
    rcases S.look I.ok h with ⟨_, _, e⟩ | ⟨_, q⟩
    · rw [e]; exact fun z => absurd (z ▸ hlt b hb) (Nat.not_lt.mpr (Nat.le_succ _))
    · exact (hf b hb).2.2.2.2.1 y c q⟩
  bs := I.bs
  bsz := Nat.le_trans I.ok.bsz I.sz
  noex := fun b o e hb => by
    obtain ⟨_, _, _, h, _⟩ := hf b hb
    rcases h with h | h
    · exact I.ok.noex b o e h
    · exact absurd (Nat.lt_of_lt_of_le (Heap.lt_size e) (Nat.le_trans I.ok.bsz h)) (Nat.lt_irrefl _)
  exfs := fun b hb hz => by
    obtain ⟨_, h1, h2, _⟩ := hf b hb
    rcases List.mem_cons.mp (I.stkSub b hz) with e | e
    · exact h1 e
    · exact h2 e
  funs := I.stack
  frf := I.stkFree
theorem hide_get {N : List Str} {i : Nat} {y : Str} (h : (hide x N)[i]? = some y) : ∃ z, N[i]? = some z ∧ ((z = x ∧ y = "") ∨ (z ≠ x ∧ y = z)) := by
  unfold hide at h
  rw [List.getElem?_map, Option.map_eq_some_iff] at h
  obtain ⟨z, e1, e2⟩ := h
  refine ⟨z, e1, ?_⟩
  split at e2
  · exact .inl ⟨by assumption, e2.symm⟩
  · exact .inr ⟨by assumption, e2.symm⟩
theorem comp_inv {h₁ : Heap} {tk : Nat} (S : CompSc X scope x) (I : Inv X pins σ H₃ s₃) (hf : ∀ b ∈ fp, FpOk X pins H₃ b) (hlt : ∀ b ∈ fp, b < s₃.heap.objs.size) (hns : h₁.Ns s₃.heap.objs.size fun _ => Option.none)
    (hk : ∀ b o, s₃.heap.get? b = some o → h₁.get? b = some o) (hcell : scope.names.lookup x = some .cell → h₁.IsCell (s₃.heap.objs.size + 1) Option.none) : Inv (compX X scope x s₃ H₃ fp pins) [] (Option.none :: σ) H₃ { s₃ with heap := h₁, toks := tk } := by
  refine ⟨comp_ok S I hf hlt, rfl, I.bare, Un.kept hk, ⟨_, hns, fun i y v h1 h2 h3 => ?_⟩, fun y c h => ?_, I.hok.fresh (Nat.le_refl _), fun y c h => ?_, fun p hp => ?_, I.hok.kept hk, ?_⟩
  · cases i with
    | zero => cases h2
    | succ i =>
      have h1 : (hide x X.N)[i]? = some y := h1
      have h2 : σ[i]? = some (some v) := h2
      obtain ⟨z, e1, e2⟩ := hide_get h1
      have vis : scope.names.lookup y = some .local ∨ scope.names.lookup y = some .free := by
        rcases h3 with q | q
        · rcases relabel_lookup (show _ = _ from q) with q | ⟨z, q⟩
          · exact .inl q
          · cases z
        · rcases S.kindOf q with q | ⟨q, _⟩
          · exact .inr q
          · exfalso
            rcases e2 with ⟨_, z⟩ | ⟨ne, z⟩
            · have hx : x = "" := q.symm.trans z
              have hn := S.none
              rw [← hx] at hn
              rcases S.loc with w | w <;> rw [hn] at w <;> cases w
            · exact ne (z.symm.trans q)
      rcases e2 with ⟨rfl, rfl⟩ | ⟨ne, rfl⟩
      · rw [S.none] at vis
        rcases vis with q | q <;> cases q
      · rcases vis with q | q
        · exact absurd (S.own y (List.mem_of_getElem? e1) q) ne
        · have kx := S.free _ (lookup_mem q) rfl
          obtain ⟨m, _, hl⟩ := I.loc
          obtain ⟨u, ru, l⟩ := hl i y v e1 h2 (.inr kx)
          refine ⟨u, ru, .inr ⟨?_, ?_⟩⟩
          · rcases h3 with q' | q'
            · rcases relabel_lookup (show _ = _ from q') with q' | ⟨z, _⟩
              · rw [q] at q'; cases q'
              · cases z
            · exact q'
          · rcases l with ⟨k, _⟩ | ⟨_, c, hc, hcell'⟩
            · have k : X.env.scope.names.lookup y = some .local := k
              rcases kx with z | z
              · have z : X.env.scope.names.lookup y = some .cell := z
                rw [z] at k; cases k
              · have z : X.env.scope.names.lookup y = some .free := z
                rw [z] at k; cases k
            · obtain ⟨c', hc', hc2⟩ := S.has (s₃ := s₃) (H₃ := H₃) (fp := fp) (pins := pins) q
              have e : X.env.cells.lookup y = some c' := by
                rcases clos_lookup (S.cells I.ok) hc2 with q | q
                · cases q
                · exact q
              rw [hc] at e
              cases e
              obtain ⟨o, ho, hd⟩ := hcell'
              exact ⟨c, hc', o, hk _ _ ho, hd⟩
  · rcases S.look I.ok h with ⟨_, q, e⟩ | ⟨_, q⟩
    · rw [e]; exact ⟨Option.none, hcell q⟩
    · obtain ⟨v, o, ho, hd⟩ := I.cell y c q
      exact ⟨v, o, hk _ _ ho, hd⟩
  · rcases S.look I.ok h with ⟨_, q, e⟩ | ⟨_, q⟩
    · rw [e]; exact I.hok.fresh (Nat.le_succ _)
    · exact I.freeC y c q
  · have hp : p ∈ X.pn ++ pins := by simpa [compX] using hp
    obtain ⟨e, n, ne, nf, d⟩ := I.pin p hp
    refine ⟨hk _ _ e, n, Nat.ne_of_lt (Heap.lt_size e), fun z => ?_, d⟩
    rcases List.mem_cons.mp (I.stkSub _ z) with q | q
    · exact ne q
    · exact nf q
  · show σ.length + 1 = (x :: hide x X.N).length
    unfold hide
    rw [List.length_cons, List.length_map, I.len]
/-- behind the block -/
theorem comp_back {s' : Shared} {h' : Heap} {H' : Hp} {σ' : St} {ps : List (Addr × Obj)} (I : Inv X pins σ H₃ s₃) (hf : ∀ b ∈ fp, FpOk X pins H₃ b) (J : Inv (compX X scope x s₃ H₃ fp pins) ps σ' H' s') (hs : Heap.SameBut s₃.heap.objs.size s'.heap h') :
    Inv X pins σ H' { s' with heap := h' } := by
  have ne : ∀ b o, s₃.heap.get? b = some o → b ≠ s₃.heap.objs.size := fun b o e => Nat.ne_of_lt (Heap.lt_size e)
  have fr : H' s₃.heap.objs.size = Option.none := J.free
  have same : ∀ b, b ≠ s₃.heap.objs.size → h'.get? b = s'.heap.get? b := fun b hb => hs.2 b hb
  refine I.call' (s' := { s' with heap := h' }) (ch := fp) J.os ⟨fun b o e n hb hx => ?_, fun b o e n hb hx => ?_, fun b o e n hx => J.base.free b o e n hx, fun b o e hx => ?_, J.base.tups, J.base.frzs, J.base.tbls⟩ (fun b o e => ?_) J.bare fun b hb => ?_
  · exact (same b (ne b o e)).trans (J.base.keep b o e n hb hx)
  · obtain ⟨sl, q⟩ := J.base.slot b o e n hb hx
    exact ⟨sl, (same b (ne b o e)).trans q⟩
  · obtain ⟨o', q⟩ := J.base.there b o e hx
    exact ⟨o', (same b (ne b o e)).trans q⟩
  · refine (J.hok b o e).stay (fun c v hc q => (same c ?_).trans q) (fun _ q => q) fun _ _ q => q
    intro z
    rcases hc with w | w
    · rw [← w, z, fr] at e; cases e
    · rw [z, fr] at w; cases w
  · obtain ⟨_, h1, _, h3, h4, h5⟩ := hf b hb
    exact ⟨h3, h1, h4, h5⟩
end
/-! ### the turns -/
theorem comp_turns {prog : Program} {w : World} {A : Around} {E : Result → Shared → Prop} {s : Shared} {elt target iter : Expr} {ifs : List Expr} {scope : Scope} {pos : Pos} {it acc : Value} {env : PySem.Env} (J : Nat → Shared → Prop)
    (turn : ∀ n s, J n s → wpAny (model prog w) A (pyNext it) (fun r s1 => match r with
      | Option.none => E (.ok .next) s1
      | some v => wpAny (model prog w) A (letOwnedTupleGo target it v) (fun _ s2 => wpAny (model prog w) A (assign target env v) (fun _ s3 =>
          wpAny (model prog w) A (forIn ifs true fun c r => if r = true then do let ok ← isTrue c env (eval c env); pure (ForInStep.yield ok) else pure (ForInStep.yield r)) (fun ok s4 =>
            if ok = true then wpAny (model prog w) A (eval elt env) (fun y s5 => wpAny (model prog w) A (call (.builtin "list.append") [acc, y]) (fun _ s6 => ∃ m, m < n ∧ J m s6) (fun _ _ => False) s5) (fun _ _ => False) s4
            else ∃ m, m < n ∧ J m s4) (fun _ _ => False) s3) (fun _ _ => False) s2) (fun _ _ => False) s1) (fun _ _ => False) s)
    (n : Nat) (h : J n s) : codeAny (model prog w) A (.compLoop (.ListComp elt [⟨target, iter, ifs, 0⟩] scope pos) 0 it acc env) E s := by
  refine codeAny_loop rfl J (fun n s hJ => ?_) n h
  show wpAny _ _ ((compTurn (.ListComp elt [⟨target, iter, ifs, 0⟩] scope pos) 0 it acc env).onRaise _) _ _ s
  refine wpAny_noted ?_
  rw [compTurn_list]
  have no : ∀ (e : Value) (s' : Shared), False → notedBy (model prog w) A env (fun e s' => E (.error e) s') e s' := fun _ _ z => z.elim
  refine wpAny_bind (wpAny_standAt (wpAny_bind (wpAny_mono (turn n s hJ) (fun r s1 h1 => ?_) no)))
  cases r with
  | none => exact wpAny_pure h1
  | some v =>
    refine wpAny_bind (wpAny_mono h1 (fun _ s2 h2 => ?_) no)
    refine wpAny_bind (wpAny_mono h2 (fun _ s3 h3 => wpAny_bind (wpAny_mono h3 (fun ok s4 h4 => ?_) no)) no)
    cases ok with
    | false => exact wpAny_pure ⟨rfl, h4⟩
    | true => exact wpAny_bind (wpAny_bind (wpAny_mono h4 (fun y s5 h5 => wpAny_bind (wpAny_mono h5 (fun _ s6 h6 => wpAny_pure (wpAny_pure ⟨rfl, h6⟩)) no)) no))
theorem R.cons {K : PySem.W.Frag} {W : Addr → Prop} {ρ : LW.Env} {σ : St} {H : Hp} {d : D} {v : V} (r : R K W ρ σ H) (h : Rep K W H d v) : R K W (some (.val d) :: ρ) (some v :: σ) H := by
  refine ⟨fun i e hi => ?_, fun i e hi => ?_, fun i x e hi hc => ?_, fun i j x y d e a h1 h2 c1 c2 h3 h4 => ?_, r.wf, by simpa using r.len⟩
  · cases i with
    | zero => cases hi; exact ⟨v, rfl, h⟩
    | succ i => exact r.val i e hi
  · cases i with
    | zero => cases hi
    | succ i => exact r.nol i e hi
  · cases i with
    | zero => cases hi; cases hc
    | succ i => exact r.own i x e hi hc
  · cases i with
    | zero => cases h1; cases c1
    | succ i =>
      cases j with
      | zero => cases h2; cases c2
      | succ j => rw [r.inj i j x y d e a h1 h2 c1 c2 h3 h4]
/-- the tests of a comprehension: none or one -/
def CondOk (X : Cx) (fn : Nat → List D → Option SV) (scope : Scope) (x : Str) (ifs : List Expr) (cond : E) : Prop :=
  (ifs = [] ∧ cond = .bl true) ∨ ∃ c, ifs = [c] ∧ ∀ s₃ H₃ fp pins, IT (compX X scope x s₃ H₃ fp pins) fn c cond
section
variable {X : Cx} {fn : Nat → List D → Option SV}
theorem cond_run {scope : Scope} {x : Str} {ifs : List Expr} {cond : E} {s₃ : Shared} {H₃ : Hp} {fp : List Addr} {pins ps : List (Addr × Obj)} {σ : St} {H : Hp} {s : Shared} {W : Addr → Prop} {ρ : LW.Env} {k : Bool} {Q : Bool → Hp → Prop}
    (hc : CondOk X fn scope x ifs cond) (I : Inv (compX X scope x s₃ H₃ fp pins) ps σ H s) (hR : R X.K W ρ σ H) (he : evT fn cond ρ = some k) (q : ∀ H', Same H H' → Q k H') :
    wpAny (model X.prog X.w) X.A (forIn ifs true fun c r => if r = true then do let ok ← isTrue c (compX X scope x s₃ H₃ fp pins).env (eval c (compX X scope x s₃ H₃ fp pins).env); pure (ForInStep.yield ok) else pure (ForInStep.yield r))
      (TP (compX X scope x s₃ H₃ fp pins) ps σ Q) (fun _ _ => False) s := by
  rcases hc with ⟨rfl, rfl⟩ | ⟨c, rfl, hc⟩
  · simp only [evT] at he
    cases he
    exact wpAny_tests_nil ⟨H, I, q H (.refl H)⟩
  · exact wpAny_tests_one ((hc s₃ H₃ fp pins).h ps s σ H Q I ⟨W, ρ, k, hR, he, q⟩)
theorem compL_len {test : D → Option Bool} {elt : D → Option SV} : ∀ {ds out : List D}, compL test elt ds = some out → out.length ≤ ds.length
  | [], _, h => by simp only [compL] at h; cases h; exact Nat.le_refl _
  | d :: r, out, h => by
    simp only [compL, Option.bind_eq_some_iff] at h
    obtain ⟨b, e1, e2⟩ := h
    cases b with
    | true =>
      simp only [Option.bind_eq_some_iff, Option.map_eq_some_iff] at e2
      obtain ⟨_, _, _, _, l, e3, rfl⟩ := e2
      have := compL_len e3
      simp; omega
    | false => have := compL_len e2; simp; omega
theorem fp_comp {scope : Scope} {x : Str} {s₃ : Shared} {H₃ H' : Hp} {fp : List Addr} {pins : List (Addr × Obj)} {σ : St} (S : CompSc X scope x) (I : Inv X pins σ H₃ s₃) (hf : ∀ b ∈ fp, FpOk X pins H₃ b) (hlt : ∀ b ∈ fp, b < s₃.heap.objs.size)
    (hn : ∀ b ∈ fp, H' b = Option.none) : ∀ b ∈ fp, FpOk (compX X scope x s₃ H₃ fp pins) [] H' b := fun b hb => by
  have ok := comp_ok S I hf hlt
  refine ⟨hn b hb, (ok.exf b hb).1, ok.exfs b hb, .inl hb, (ok.exf b hb).2, fun p hp => ?_⟩
  have hp : p ∈ X.pn ++ pins := by simpa [compX] using hp
  exact (hf b hb).2.2.2.2.2 p hp
/-- one turn's state -/
structure CSt (X : Cx) (scope : Scope) (x : Str) (s₃ : Shared) (H₃ : Hp) (fp : List Addr) (pins : List (Addr × Obj)) (σ : St) (tn : Nat → Heap → Prop) (H2 : Hp) (W : Addr → Prop) (L : Addr) (test : D → Option Bool) (elt : D → Option SV) (ds out : List D)
    (n k : Nat) (y : Option V) (H' : Hp) (ys : List V) (out1 rest : List D) (s' : Shared) : Prop where
  inv : Inv (compX X scope x s₃ H₃ fp pins) [] (y :: σ) H' s'
  htn : tn k s'.heap
  hfp : ∀ b ∈ fp, H' b = Option.none
  hn : n = ds.length + 1 - k
  hk : k ≤ ds.length
  same : Same H2 H'
  lst : H' L = some (.lst ys)
  reps : Reps X.K (add W L) H' out1 ys
  hrest : compL test elt (ds.drop k) = some rest
  hout : out = out1 ++ rest
theorem comp_core {iter elt : Expr} {x : Str} {px pos pos2 : Pos} {ifs : List Expr} {scope : Scope} {rng : Bool} {src : Es} {cond ce : E} {pins : List (Addr × Obj)} {s : Shared} {σ : St} {H : Hp} {W : Addr → Prop} {ρ : LW.Env} {rs : List SV} {ds out : List D} {use : Option (Value → Sem Unit)} {Qe : Value → Shared → Prop}
    (hcalm : X.calm = true) (S : CompSc X scope x) (hsrc : Src X fn (.Name x px) iter rng src)
    (hcond : CondOk X fn scope x ifs cond) (helt : ∀ s₃ H₃ fp pins, IE (compX X scope x s₃ H₃ fp pins) fn elt ce) (hfo : ∀ y, foldedSetIterable iter X.env y = pure y) (I : Inv X pins σ H s) (hR : R X.K W ρ σ H)
    (e1 : evEs fn src ρ = some rs) (e2 : itemsOf rng rs = some ds) (hline : ds.length ≤ line) (e3 : compL (fun d => evT fn cond (some (.val d) :: ρ)) (fun d => evE fn ce (some (.val d) :: ρ)) ds = some out)
    (fin : ∀ (s4 : Shared) (fl : Flow) (m : Str → Option Value) (C L : Addr) (H' : Hp), s4.heap.Ns C m → (∀ h', Heap.SameBut C s4.heap h' → Inv X pins σ H' { s4 with heap := h' }) → (X.s₀.heap.objs.size ≤ C ∧ C ≠ X.env.locals ∧ (∀ y c, X.env.cells.lookup y = some c → c ≠ C) ∧ (∀ p ∈ X.pn ++ pins, p.1 ≠ C) ∧ H' C = Option.none) → Same H H' →
      Res X.K W H H' (.obj true (.lst out)) (.ref L) → compPost (model X.prog X.w) X.A X.xe use Qe (.ref L) C (.ok fl) s4) :
    wpAny (model X.prog X.w) X.A (comprehension (.ListComp elt [⟨.Name x px, iter, ifs, 0⟩] scope pos) scope X.env pos2 (newList []) false (eval iter X.env) use) Qe X.xe s := by
  have hclos := closureFor_clos (scope := scope) (env := X.env) (S.cells I.ok)
  refine wpAny_comprehension_free (use := use) rfl hfo hclos S.kind S.names ?_
  refine thn (hsrc.h pins s σ H (fun J H2 => Same H H2 ∧ Ys X.K J W H2 ds) I ⟨W, ρ, rs, ds, hR, e1, e2, fun J H' s1 y _ => ⟨s1, y⟩⟩) fun v s1 h1 => thn h1 fun itv s2 h2 => ?_
  obtain ⟨it, fp, tn, J, H2, rfl, I2, T, st2, f2, sm, hy⟩ := h2
  -- the list that grows
  refine wpAny_newObj_type (newEnv_comp S fun h₁ hns₁ hk₁ hc₁ => ?_)
  have I3 := I2.lnew (t' := s2.toks) (ys := []) (its := []) .nil (Nat.zero_le _)
  have hD : H2 s2.heap.objs.size = Option.none := I2.fresh
  generalize hL : s2.heap.objs.size = L at hD
  generalize hs3 : ({ s2 with heap := s2.heap.push { cls := .type "list", data := .seq ([] : List Value).toArray }, toks := s2.toks } : Shared) = s₃ at I3
  have hs3h : s₃.heap = s2.heap.push { cls := .type "list", data := .seq ([] : List Value).toArray } := by rw [← hs3]
  rw [hL] at I3
  generalize hH3 : upd H2 L (.lst []) = H₃ at I3
  have blt : ∀ b ∈ fp, b < s2.heap.objs.size := fun b hb => by
    obtain ⟨o, e, _⟩ := T.obj _ _ st2 b hb
    exact Heap.lt_size e
  have hlt : ∀ b ∈ fp, b < s₃.heap.objs.size := fun b hb => by rw [hs3h, Heap.size_push]; exact Nat.lt_succ_of_lt (blt b hb)
  have hf : ∀ b ∈ fp, FpOk X pins H₃ b := fun b hb => by
    refine ⟨?_, (f2 b hb).2⟩
    rw [← hH3, upd_ne (by rw [← hL]; exact Nat.ne_of_lt (blt b hb))]
    exact (f2 b hb).1
  have keep1 : ∀ b o, s₃.heap.get? b = some o → h₁.get? b = some o := fun b o e => by
    rw [hs3h] at e
    exact hk₁ b o e
  have ns1 : h₁.Ns s₃.heap.objs.size fun _ => Option.none := by rw [hs3h]; exact hns₁
  have Ic := comp_inv (tk := s2.toks) S I3 hf hlt ns1 keep1 (by rw [hs3h]; exact hc₁)
  have fpc := fun {H' : Hp} hn => fp_comp (H' := H') S I3 hf hlt hn
  have win : ∀ b, add W L b → W b ∨ H2 b = Option.none := fun b w => by
    rcases w with w | rfl
    · exact .inl w
    · exact .inr hD
  have hRL : ∀ {H' : Hp} {ys : List V}, Same H2 H' → H' L = some (.lst ys) → R X.K (add W L) ρ σ H' := fun {H' ys} sm' e => (hR.same sm).add sm' hD e
  have lenO : out.length ≤ ds.length := compL_len e3
  have loop : ∀ s' : Shared, s' = { s₃ with heap := h₁, toks := s2.toks } → codeAny (model X.prog X.w) X.A (.compLoop (.ListComp elt [⟨.Name x px, iter, ifs, 0⟩] scope pos) 0 (.ref it) (.ref L) (compX X scope x s₃ H₃ fp pins).env)
      (compPost (model X.prog X.w) X.A X.xe use Qe (.ref L) s₃.heap.objs.size) s' := by
    rintro s' rfl
    refine comp_turns (fun n s' => ∃ k y H' ys out1 rest, CSt X scope x s₃ H₃ fp pins σ tn H2 W L (fun d => evT fn cond (some (.val d) :: ρ)) (fun d => evE fn ce (some (.val d) :: ρ)) ds out n k y H' ys out1 rest s') ?_ (ds.length + 1)
      ⟨0, Option.none, H₃, [], [], out, Ic, T.keep _ _ _ st2 (fun b hb o e => keep1 b o (by rw [hs3h]; exact Heap.get?_push_of_some _ e)), fun b hb => (hf b hb).1, rfl, Nat.zero_le _, by rw [← hH3]; exact same_upd hD _, by rw [← hH3]; exact upd_same, .nil, e3, rfl⟩
    rintro n s' ⟨k, y, H', ys, out1, rest, c⟩
    obtain ⟨hstop, hgo⟩ := hy (add W L) H' c.same win k
    by_cases hk : k < ds.length
    · have hd : ds[k]? = some ds[k] := by simp [hk]
      obtain ⟨g1, g2⟩ := hgo _ hd
      have crest := c.hrest
      rw [drop_cons hd] at crest
      simp only [compL, Option.bind_eq_some_iff] at crest
      obtain ⟨b, t1, t2⟩ := crest
      refine thn (T.item (compX X scope x s₃ H₃ fp pins) rfl rfl rfl hcalm k [] s' (y :: σ) H' _ c.inv (fpc c.hfp) c.htn g1) fun r s4 ⟨u, hr, h4⟩ => ?_
      subst hr
      refine thn h4 fun _ s5 ⟨xv, H5, I5, r5, y5, st5, fr5⟩ => ?_
      obtain ⟨rfl, rv⟩ := g2 xv H5 y5
      have I5' := I5.pinned (fpc fr5) (T.obj _ _ st5)
      refine thn (pg_name (X := compX X scope x s₃ H₃ fp pins) (i := 0) S.nd rfl S.locX S.fnX _ s5 (y :: σ) H5 xv u (fun σ' H' => σ' = some xv :: σ ∧ H' = H5) I5' r5 ⟨rfl, rfl⟩) fun _ s6 ⟨σ6, H6, I6, q6, q7⟩ => ?_
      subst q6 q7
      have hRc := (hRL c.same c.lst).cons rv
      refine thn (cond_run (Q := fun b' H7 => b' = b ∧ Same H6 H7) hcond I6 hRc t1 fun H7 s7 => ⟨rfl, s7⟩) fun ok s7 ⟨H7, I7, q7, m7⟩ => ?_
      subst q7
      have back : ∀ {s' : Shared} {H' : Hp}, Inv (compX X scope x s₃ H₃ fp pins) ([] ++ pinsAt fp s5.heap) (some xv :: σ) H' s' → tn (k + 1) s'.heap ∧ ∀ b ∈ fp, H' b = Option.none := fun {s' H'} J => by
        refine ⟨T.keep _ _ _ st5 fun b hb o e => (J.pin (b, o) (List.mem_append_right _ (List.mem_append_right _ (mem_pinsAt hb e)))).1, fun b hb => ?_⟩
        obtain ⟨o, e, d⟩ := T.obj _ _ st5 b hb
        exact (J.pin (b, o) (List.mem_append_right _ (List.mem_append_right _ (mem_pinsAt hb e)))).2.1
      cases ok with
      | false =>
        rw [if_neg Bool.false_ne_true]
        have bk := back I7
        exact ⟨_, by have := c.hn; omega, k + 1, some xv, H7, ys, out1, rest, I7.unpinned, bk.1, bk.2, rfl, hk, c.same.trans m7, m7 _ _ c.lst, c.reps.ext (.same m7), t2, c.hout⟩
      | true =>
        rw [if_pos rfl]
        simp only [Option.bind_eq_some_iff, Option.map_eq_some_iff] at t2
        obtain ⟨r8, t3, d8, t4, rest', t5, rfl⟩ := t2
        have hR7 := hRc.same m7
        refine thn ((helt s₃ H₃ fp pins).h _ s7 _ H7 (fun v H8 => Same H7 H8 ∧ Rep X.K (add W L) H8 d8 v) I7 ⟨add W L, _, r8, hR7, t3, fun v8 H8 m8 res => ⟨m8, (res.frz hR7.wf).toD t4⟩⟩) fun u8 s8 ⟨v8, H8, I8, rl8, m8, rp8⟩ => ?_
        have lst8 := m8 _ _ (m7 _ _ c.lst)
        have lenY := c.reps.length
        have lenT := congrArg List.length c.hout
        rw [List.length_append, List.length_cons] at lenT
        have le := line_eq
        refine thn (mt_append (X := compX X scope x s₃ H₃ fp pins) _ s8 _ H8 (.ref L) [v8] (.ref L) [u8] (fun _ H9 => H9 = upd H8 L (.lst (ys ++ [v8]))) I8 rfl (.cons rl8 .nil) ⟨L, ys, v8, rfl, rfl, lst8, by omega, rfl⟩) fun _ s9 ⟨_, H9, I9, _, q9⟩ => ?_
        subst q9
        have bk := back I9
        have ext : Ext (add W L) H8 (add W L) (upd H8 L (.lst (ys ++ [v8]))) := by
          refine ⟨fun b o q n => ?_, fun b zs q => ?_, fun b o u q => ?_, fun b w => .inl w⟩
          · rw [upd_ne (fun z => n (.inr z))]; exact q
          · rw [upd_ne (fun z => by rw [z, lst8] at q; cases q)]; exact q
          · rw [upd_ne (fun z => by rw [z, lst8] at q; cases q)]; exact q
        have smL : Same H2 (upd H8 L (.lst (ys ++ [v8]))) := fun b o q => by
          rw [upd_ne (fun z => by rw [z, hD] at q; cases q)]
          exact m8 _ _ (m7 _ _ (c.same _ _ q))
        exact ⟨_, by have := c.hn; omega, k + 1, some xv, _, ys ++ [v8], out1 ++ [d8], rest', I9.unpinned, bk.1, bk.2, rfl, hk, smL, upd_same, ((c.reps.ext (.same (m7.trans m8))).ext ext).append (.cons (rp8.ext ext) .nil), t5, by rw [c.hout]; simp⟩
    · have ek : k = ds.length := by have := c.hk; omega
      refine thn (T.done (compX X scope x s₃ H₃ fp pins) rfl rfl rfl hcalm k [] s' (y :: σ) H' _ c.inv (fpc c.hfp) c.htn (hstop ek)) fun r s4 ⟨hr, I4⟩ => ?_
      subst hr
      obtain ⟨m, hn, _⟩ := I4.loc
      have er := c.hrest
      rw [List.drop_of_length_le (by omega), compL] at er
      cases er
      have eo := c.hout
      rw [List.append_nil] at eo
      refine fin s4 _ m _ L H' hn (fun h' hs => comp_back I3 hf I4 hs) ⟨I3.sz, (Nat.ne_of_lt I3.lt).symm, fun y cc hc => ?_, fun p hp => ?_, I4.free⟩ (sm.trans c.same) (by rw [eo]; exact .new (sm.free hD) c.lst (.lst c.reps))
      · obtain ⟨v, o, ho, _⟩ := I3.cell y cc hc
        exact Nat.ne_of_lt (Heap.lt_size ho)
      · exact Nat.ne_of_lt (Heap.lt_size (I3.pin p hp).1)
  have st0 : tn 0 h₁ := T.keep _ _ _ st2 (fun b hb o e => keep1 b o (by rw [hs3h]; exact Heap.get?_push_of_some _ e))
  subst hs3 hL
  exact codeAny_compStart_list (loop _ rfl) (T.self X.A 0 _ _ _ st0 (loop _ rfl))
theorem i_comp {iter elt : Expr} {x : Str} {px pos : Pos} {ifs : List Expr} {scope : Scope} {rng : Bool} {src : Es} {cond ce : E} (hcalm : X.calm = true) (S : CompSc X scope x) (hsrc : Src X fn (.Name x px) iter rng src)
    (hcond : CondOk X fn scope x ifs cond) (helt : ∀ s₃ H₃ fp pins, IE (compX X scope x s₃ H₃ fp pins) fn elt ce) (hfo : ∀ y, foldedSetIterable iter X.env y = pure y := by intro _; rfl) :
    IE X fn (.ListComp elt [⟨.Name x px, iter, ifs, 0⟩] scope pos) (.comp rng src cond ce) := by
  refine .mk ?_
  rintro pins s σ H Q I ⟨W, ρ, r, hR, he, q⟩
  simp only [evE, Option.bind_eq_some_iff] at he
  obtain ⟨rs, e1, ds, e2, e3⟩ := he
  split at e3
  case isFalse => cases e3
  rename_i hline
  rw [Option.map_eq_some_iff] at e3
  obtain ⟨out, e3, rfl⟩ := e3
  rw [eval_ListComp]
  refine comp_core (use := Option.none) hcalm S hsrc hcond helt hfo I hR e1 e2 hline e3 fun s4 fl m C L H' hn back _ sm res => ?_
  exact ⟨m, hn, fun h' hs => ⟨.ref L, H', back h' hs, rfl, q _ H' sm res⟩⟩
/-- given to a name of the def that nothing captures -/
theorem s_asgC (i : Nat) {fa : Nat → List D → Option Ans} {fuel : Nat} {iter elt : Expr} {x y : Str} {px py pos spos : Pos} {ifs : List Expr} {scope : Scope} {rng : Bool} {src : Es} {cond ce : E} (hcalm : X.calm = true) (hN : X.N.Nodup) (hi : X.N[i]? = some y) (hy : X.env.scope.names.lookup y = some .local) (S : CompSc X scope x) (hsrc : Src X (prj fa) (.Name x px) iter rng src)
    (hcond : CondOk X (prj fa) scope x ifs cond) (helt : ∀ s₃ H₃ fp pins, IE (compX X scope x s₃ H₃ fp pins) (prj fa) elt ce)
    (hsw : swapsWith (.ListComp elt [⟨.Name x px, iter, ifs, 0⟩] scope pos) (some (.Name y py)) spos.line X.env = pure true := by rfl) (hfo : ∀ y, foldedSetIterable iter X.env y = pure y := by intro _; rfl) :
    IS X (exS fa fuel (.asg i (.comp rng src cond ce))) (.Assign [.Name y py] (.ListComp elt [⟨.Name x px, iter, ifs, 0⟩] scope pos) spos) := by
  refine .mk ?_
  rintro pins s σ H D0 I ⟨W, ρ, z, hR, hz, q⟩
  simp only [exS, Option.bind_eq_some_iff] at hz
  obtain ⟨r, he, hz⟩ := hz
  split at hz
  case isTrue => cases hz
  rename_i hl
  cases hz
  simp only [Bool.not_eq_true, Bool.or_eq_false_iff, Bool.not_eq_false'] at hl
  simp only [evE, Option.bind_eq_some_iff] at he
  obtain ⟨rs, e1, ds, e2, e3⟩ := he
  split at e3
  case isFalse => cases e3
  rename_i hline
  rw [Option.map_eq_some_iff] at e3
  obtain ⟨out, e3, rfl⟩ := e3
  rw [exec_Assign_Name_used _ _ _ _ hsw]
  refine wpAny_bind (wpAny_standAt (wpAny_bind ?_))
  show wpAny _ X.A (do let _ ← comprehension (.ListComp elt [⟨.Name x px, iter, ifs, 0⟩] scope pos) scope X.env _ (newList []) false (eval iter X.env) (some (assign (.Name y py) X.env))) _ _ s
  refine wpAny_bind (wpAny_mono (comp_core (use := some (assign (.Name y py) X.env)) (Qe := fun _ s' => SP X pins D0 .next s') hcalm S hsrc hcond helt hfo I hR e1 e2 hline e3 fun s4 fl m C L H' hn back cf sm res => ?_) (fun _ s' hq => wpAny_pure (wpAny_pure hq)) fun _ _ e => e)
  have I4 : Inv X pins σ H' s4 := back s4.heap ⟨rfl, fun _ _ => rfl⟩
  refine wpAny_assign_Name (store_ok2 I4 hN hi (.inl hy) (v := .ref L) rfl (fun s5 I5 ⟨a, hs5, ha⟩ => ?_) (.inr hy))
  have haC : a ≠ C := by
    rcases ha with rfl | ha
    · exact fun z => cf.2.1 z.symm
    · exact cf.2.2.1 _ _ ha
  have hnC : s5.heap.Ns C m := by
    obtain ⟨o, es, ep, ho, hrest⟩ := hn
    exact ⟨o, es, ep, (hs5.2 C (Ne.symm haC)).trans ho, hrest⟩
  refine ⟨m, hnC, fun h' hs => ?_⟩
  have I6 : Inv X pins (σ.set i (some (.ref L))) H' { s5 with heap := h' } := by
    refine I5.call' (s' := { s5 with heap := h' }) (ch := [C]) rfl ⟨fun b o e n hb hx => ?_, fun b o e n hb hx => ?_, fun b o e n hx => n, fun b o e hx => ?_, fun _ _ q => q, fun _ _ _ q => q, fun _ ps q => ⟨#[], by simpa using q⟩⟩ ?_ I5.bare fun b hb => ?_
    · exact (hs.2 b (by simpa using hx)).trans e
    · exact ⟨o.slots, (hs.2 b (by simpa using hx)).trans e⟩
    · exact ⟨o, (hs.2 b (by simpa using hx)).trans e⟩
    · intro b o e
      refine (I5.hok b o e).stay (fun c v hc q => (hs.2 c ?_).trans q) (fun _ q => q) fun _ _ q => q
      intro z
      rcases hc with w | w
      · rw [← w, z, cf.2.2.2.2] at e; cases e
      · rw [z, cf.2.2.2.2] at w; cases w
    · have e : b = C := by simpa using hb
      subst e
      exact ⟨.inr cf.1, cf.2.1, cf.2.2.1, cf.2.2.2.1⟩
  cases res with
  | new h e r => exact ⟨_, H', I6, q _ _ H' (post_set_new hR sm h e r (free_io hl.2))⟩
end
end L2.LW
set_option linter.all false
set_option maxHeartbeats 4000000
namespace L2.LW
open PySem PySem.Spec PyProof.Rows
/-! ### isinstance -/
def tyN : Ty → String
  | .bool => "bool" | .int => "int" | .str => "str" | .list => "list" | .tuple => "tuple"
def dTy : D → String
  | .int _ => "int" | .bl _ => "bool" | .non => "NoneType" | .str _ => "str" | .tup _ => "tuple" | .lst _ => "list" | .dct _ _ _ => "dict"
theorem kit_ty (K : PySem.W.Frag) (d : D) (t : Ty) : PySem.W.kitOne K (.type (dTy d)) (.type (tyN t)) = some (hasTy t d) := by
  cases d <;> cases t <;> rfl
section
variable {X : Cx} {fn : Nat → List D → Option SV}
theorem inst_run {pins : List (Addr × Obj)} {σ : St} {H : Hp} {s : Shared} {W : Addr → Prop} {A : Around} {E Q : Value → Shared → Prop} {d : D} {x : V} {u : Value} {t : Ty} (I : Inv X pins σ H s) (h : Sees X.K W H d x) (r : RelV x u)
    (q : ∀ tk, Q (.bool (hasTy t d)) { s with toks := tk }) : wpAny (model X.prog X.w) A (call (.builtin "isinstance") [u, .type (tyN t)]) Q E s := by
  have e := kit_ty X.K d t
  cases d with
  | int i => cases h.int; obtain ⟨tk, rfl⟩ := r; exact PySem.W.kia_one PySem.W.kitx_int I.kIn True.intro e (fun z => nomatch z) q
  | bl b => cases h.bl; cases r; exact PySem.W.kia_one PySem.W.kitx_bool I.kIn True.intro e (fun z => nomatch z) q
  | non => cases h.non; cases r; exact PySem.W.kia_one PySem.W.kitx_none I.kIn True.intro e (fun z => nomatch z) q
  | str y => cases h.str; obtain ⟨tk, rfl⟩ := r; exact PySem.W.kia_one PySem.W.kitx_str I.kIn True.intro e (fun z => nomatch z) q
  | tup l =>
    obtain ⟨a, xs, rfl, hq, _⟩ := h.tup
    cases r
    obtain ⟨its, rv, ⟨o, ho, hc, n, hd⟩, hz⟩ := I.tuple hq
    exact PySem.W.kia_one PySem.W.kitx_tuple I.kIn ⟨o, ho, hc⟩ e (fun z => nomatch z) q
  | lst l =>
    obtain ⟨a, xs, rfl, hq, _⟩ := h.lst
    cases r
    obtain ⟨its, rv, ⟨o, n, ho, hc, _, hd⟩, hz⟩ := I.list hq
    exact PySem.W.kia_one PySem.W.kitx_list I.kIn ⟨o, ho, hc⟩ e (fun z => nomatch z) q
  | dct b ks vs =>
    cases b with
    | false =>
      obtain ⟨a, ns, ys, rfl, _, hH, _⟩ := h.dK
      cases r
      obtain ⟨_, _, vs, _, ob, _, _, h1, h2, _⟩ := dk_rd I.hok (.inl hH)
      exact PySem.W.kia_one PySem.W.kitx_dict I.kIn ⟨ob, h1, h2.1⟩ e (fun z => nomatch z) q
    | true =>
      obtain ⟨a, ns, ys, rfl, _, hH, _⟩ := h.dT
      cases r
      obtain ⟨_, _, xs, _, ob, _, _, h1, h2, _⟩ := dt_rd I.hok (.inl hH)
      exact PySem.W.kia_one PySem.W.kitx_dict I.kIn ⟨ob, h1, h2.1⟩ e (fun z => nomatch z) q
theorem vr_inst (t : Ty) : CallR X (.builtin "isinstance") (fun xs H Q => ∃ x, xs = [x, .ty (tyN t)] ∧ VR X.K (primD (.inst t)) [x] H Q) := by
  rintro pins s σ H xs us Q I rv ⟨x, rfl, W, ds, r, wf, hs, hf, q⟩
  obtain ⟨d, rfl, h1⟩ := pr1 hs
  replace hf : pInst t [d] = some r := hf
  cases hf
  obtain ⟨u, w', rfl, r1, r2⟩ := vals2 rv
  cases r2
  exact inst_run I h1 r1 fun tk => ⟨.bl _, H, I.tok tk, rfl, q _ H (.refl H) (.val (.bl _))⟩
theorem i_inst {a : Expr} {ca : E} {t : Ty} {y : Str} {p p2 pos : Pos} (hg : Gl X "isinstance") (hm : X.mg "isinstance" = Option.none) (hg2 : Gl X y) (hm2 : X.mg y = Option.none) (hv : bootBuiltins y = some (.type (tyN t))) (ha : IE X fn a ca)
    (hn : y ≠ "__name__" := by decide) (hdb : (y == ("__debug__" : Str)) = false := by decide)
    (h1 : starEach [a, .Name y p2] X.env = (false, eval a X.env) :: starEach [.Name y p2] X.env := by rfl) (h2 : starEach [.Name y p2] X.env = (false, eval (.Name y p2) X.env) :: starEach [] X.env := by rfl)
    (hpl : (backTo pos (starEach [.Name y p2] X.env)).any (·.1) = false := by rfl) :
    IE X fn (.Call (.Name "isinstance" p) [a, .Name y p2] [] pos) (.prim (.inst t) (.cons ca .nil)) :=
  .mk <| (pe_callB (vr_inst t) hg hm PyProof.Rows.boot_isinstance (pa_cons ha.v (pa_cons (pe_bltn hg2 hm2 hv (v := .ty (tyN t)) rfl hn hdb) pa_nil h2) h1) (by decide) (by decide) h1 hpl).imp fun σ H Q ⟨W, ρ, r, hR, he, q⟩ => by
    simp only [evE, evEs, Option.bind_eq_some_iff, Option.map_eq_some_iff] at he
    obtain ⟨rs, ⟨r1, e1, rs', e3, rfl⟩, e4⟩ := he
    cases e3
    exact ⟨W, ρ, r1, hR, e1, fun v1 H1 s1 f1 => ⟨v1, rfl, args_vr hR s1 (.cons f1 .nil) e4 q⟩⟩
/-! ### is None -/
/-! ### sorted -/
theorem sortI_perm (l : List Int) : (sortI l).Perm l := List.mergeSort_perm _ _
theorem sortI_pairwise (l : List Int) : (sortI l).Pairwise (· ≤ ·) := by
  have h := List.pairwise_mergeSort (le := fun (a b : Int) => decide (a ≤ b)) (fun a b c h1 h2 => by simp at *; omega) (fun a b => by simp; omega) l
  exact h.imp fun h => by simpa using h
theorem vr_sortedI {ds : List D} {ns : List Int} {pins : List (Addr × Obj)} {s : Shared} {σ : St} {H : Hp} {xs : List V} {us : List Value} {Q : VK} (I : Inv X pins σ H s) (rv : Vals xs us)
    {W : Addr → Prop} {l : List D} (hs : Paired (Sees X.K W H) [.lst l] xs) (e1 : ints? l = some ns) (h64 : ns.length < 64) (q : ∀ v H', Same H H' → Res X.K W H H' (.obj true (.lst ((sortI ns).map .int))) v → Q v H') :
    wpAny (model X.prog X.w) X.A (call (.builtin "sorted") us) (EP X pins σ Q) X.xe s := by
  cases hs with
  | cons h1 t =>
    cases t
    obtain ⟨p, ys, rfl, hp, rp⟩ := h1.lst
    have ey := rp.ofInts e1
    subst ey
    obtain ⟨u, rfl, ru⟩ := vals1 rv
    cases ru
    obtain ⟨its, rv', pl, hz⟩ := I.list hp
    have hi := intsAre_of rv'
    have hlen := rv'.length
    rw [List.length_map] at hlen
    refine sorted_ints pl.isList hi (by omega) fun out ns' a1 a2 a3 => ?_
    have en : ns' = sortI ns := PySem.W.ksm_same (a2.trans (sortI_perm ns).symm) a3 (sortI_pairwise ns)
    subst en
    obtain ⟨e, he⟩ := sortedAll_at s.heap its out
    have hl2 := (sortI_perm ns).length_eq
    have fr : H (s.heap.objs.size + 1) = Option.none := I.hok.fresh (Nat.le_succ _)
    refine ⟨.ref (s.heap.objs.size + 1), upd H (s.heap.objs.size + 1) (.lst ((sortI ns).map V.int)), I.laid (t' := s.toks) (fun _ _ => sortedAll_old) (Nat.le_succ _) ⟨?_, out.toList, e, vals_ints a1, ?_⟩, rfl, q _ _ (same_upd fr _) (res_new fr (.ints _))⟩
    · rw [List.length_map]; exact Nat.le_of_lt (small1000 (by omega))
    · simpa [seqObj] using he
/-! ### all -/
theorem reps_bools {K : PySem.W.Frag} {W : Addr → Prop} {H : Hp} : ∀ {ds : List D} {xs : List V} {bs : List Bool}, Reps K W H ds xs → bools? ds = some bs → xs = bs.map V.bl
  | _, _, bs, .nil, e => by simp [bools?] at e; subst e; rfl
  | _, _, bs, .cons h t, e => by
    cases h with
    | bl i =>
      simp only [bools?, Option.map_eq_some_iff] at e
      obtain ⟨ms, e1, rfl⟩ := e
      rw [reps_bools t e1]; rfl
    | _ => simp [bools?] at e
theorem vals_bools : ∀ {bs : List Bool} {us : List Value}, Vals (bs.map V.bl) us → us = bs.map Value.bool
  | [], us, r => by cases r; rfl
  | b :: bs, us, r => by
    cases r with
    | cons h t => cases h; rw [vals_bools t]; rfl
theorem all_range (bs : List Bool) : ((List.range bs.length).all fun i => bs.getD i true) = bs.all id := by
  induction bs with
  | nil => rfl
  | cons b r ih =>
    rw [List.length_cons, List.range_succ_eq_map, List.all_cons, List.all_map, List.all_cons]
    simp only [Function.comp_def, List.getD_cons_succ, List.getD_cons_zero]
    rw [ih]; rfl
theorem vr_all (hc : X.calm = true) : CallR X (.builtin "all") (VR X.K (primD .all)) := by
  rintro pins s σ H xs us Q I rv ⟨W, ds, r, wf, hs, hf, q⟩
  replace hf : pAll ds = some r := hf
  unfold pAll at hf
  split at hf
  · rename_i l
    rw [Option.bind_eq_some_iff] at hf
    obtain ⟨bs, e1, hf⟩ := hf
    cases hf
    cases hs with
    | cons h1 t =>
      cases t
      obtain ⟨p, ys, rfl, hp, rp⟩ := h1.lst
      have ey := reps_bools rp e1
      subst ey
      obtain ⟨u, rfl, ru⟩ := vals1 rv
      cases ru
      obtain ⟨its, rv', pl, hz⟩ := I.list hp
      have ei := vals_bools rv'
      subst ei
      obtain ⟨o, n, ho, hcl, hdi, hda⟩ := id pl
      have hne : p ≠ s.heap.objs.size := Nat.ne_of_lt (Heap.lt_size ho)
      refine call_all_walk (wpAny_pyIter_list pl.isList ?_)
      refine ⟨s.heap.objs.size, _, _, _, _, _, fun i => bs.getD i true, rfl, Walks.list (A := X.A.in1) (I.ok.hd hc) s.heap.objs.size p hne (bs.map Value.bool).toArray, ⟨⟨_, Heap.get?_push_size _ rfl, rfl, rfl⟩, ⟨o, Heap.get?_push_of_some _ ho, hcl, n, hda⟩⟩, ?_, fun h' tk hk => ?_⟩
      · intro i v s' Q' E' hv hQ
        have hv : (bs.map Value.bool).toArray[i]? = some v := hv
        rw [List.getElem?_toArray, List.getElem?_map, Option.map_eq_some_iff] at hv
        obtain ⟨b, e2, rfl⟩ := hv
        have e3 : bs.getD i true = b := by rw [List.getD_eq_getElem?_getD, e2]; rfl
        have hQ : Q' (bs.getD i true) s' := hQ
        rw [e3] at hQ
        exact wpAny_truthy_bool hQ
      · rw [List.size_toArray, List.length_map, all_range]
        refine ⟨.bl _, H, I.kept (t' := tk) (fun b o' e => ?_), rfl, q _ H (.refl H) (.val (.bl _))⟩
        exact hk b o' (by simpa using Nat.ne_of_lt (Heap.lt_size e)) (Heap.get?_push_of_some _ e)
  · cases hf
/-! ### xs[:k] -/
theorem cut_take (xs : List V) (k : Int) (hk : 0 ≤ k) : cutV xs Option.none (some k) = xs.take k.toNat := by
  obtain ⟨n, rfl⟩ := Int.eq_ofNat_of_zero_le hk
  unfold cutV
  rw [HT.sIx_none, HT.sIx_nat, List.drop_zero, Nat.sub_zero, Int.toNat_natCast]
  rcases Nat.le_total n xs.length with h | h
  · rw [Nat.min_eq_left h]
  · rw [Nat.min_eq_right h, List.take_of_length_le (Nat.le_refl _), List.take_of_length_le h]
theorem i_cutTo {a b : Expr} {ca cb : E} {p pos : Pos} (ha : IE X fn a ca) (hb : IE X fn b cb) : IE X fn (.Subscript a (.Slice Option.none (some b) Option.none p) pos) (.prim .cutTo (.cons ca (.cons cb .nil))) :=
  .mk <| (pe_slice sl_list ha.v po_none (po_some hb.v)).imp fun σ H Q ⟨W, ρ, r, hR, he, q⟩ => by
    simp only [evE, evEs, Option.bind_eq_some_iff, Option.map_eq_some_iff] at he
    obtain ⟨rs, ⟨r1, e1, rs', ⟨r2, e2, rs'', e3, rfl⟩, rfl⟩, e4⟩ := he
    cases e3
    refine ⟨W, ρ, r1, hR, e1, fun v1 H1 s1 f1 => ⟨W, ρ, r2, hR.same s1, e2, fun v2 H2 s2 f2 => ?_⟩⟩
    replace e4 : pCutTo [seeD r1, seeD r2] = some r := e4
    unfold pCutTo at e4
    split at e4
    · rename_i l k z
      have h1 := (f1.same s2).sees
      have h2 := f2.sees
      injection z with z1 z2
      injection z2 with z2 _
      rw [z1] at h1
      rw [z2] at h2
      split at e4
      · rename_i hk
        cases e4
        obtain ⟨p, xs, rfl, hp, rp⟩ := h1.lst
        cases h2.int
        refine ⟨k, rfl, p, xs, rfl, hp, fun p' hp' => ?_⟩
        rw [cut_take xs k hk]
        have s12 := s1.trans s2
        exact q _ _ (s12.trans (same_upd hp' _)) ((res_new hp' (rp.take _)).back s12)
      · cases e4
    · cases e4
/-! ### short words for a comprehension's scope and names -/
theorem vis_free {scope : Scope} {env : PySem.Env} {y : Str} (h : scope.names.lookup y = some .free) : Vis (relabel scope env) y := by
  unfold Vis relabel
  have key : ∀ (names : List (Str × NameKind)), names.lookup y = some .free →
      (names.map fun (z : Str × NameKind) => match z with | (n, k) => if (k == NameKind.free && env.scope.kind == .function && env.kindOf n == some .cell) = true then (n, NameKind.cell) else (n, k)).lookup y = some .cell ∨
      (names.map fun (z : Str × NameKind) => match z with | (n, k) => if (k == NameKind.free && env.scope.kind == .function && env.kindOf n == some .cell) = true then (n, NameKind.cell) else (n, k)).lookup y = some .free := by
    intro names
    induction names with
    | nil => intro h; cases h
    | cons z r ih =>
      obtain ⟨n, j⟩ := z
      intro h
      rw [List.lookup_cons] at h
      rw [List.map_cons, List.lookup_cons]
      by_cases hc : (j == NameKind.free && env.scope.kind == .function && env.kindOf n == some .cell) = true
      · simp only [hc, if_true]
        cases e : y == n with
        | true => exact .inl rfl
        | false => rw [e] at h; exact ih h
      · simp only [hc, Bool.false_eq_true, if_false]
        cases e : y == n with
        | true => rw [e] at h; exact .inr h
        | false => rw [e] at h; exact ih h
  exact .inr (key scope.names h)
theorem vis_loc {scope : Scope} {env : PySem.Env} {y : Str} (h : scope.names.lookup y = some .local) : Vis (relabel scope env) y := .inl (lookup_relabel_local h)
theorem gl_comp {scope : Scope} {env : PySem.Env} {y : Str} (h : scope.names.lookup y = some .globalImplicit) : (relabel scope env).names.lookup y = some .globalImplicit := by
  unfold relabel
  have key : ∀ (names : List (Str × NameKind)), names.lookup y = some .globalImplicit →
      (names.map fun (z : Str × NameKind) => match z with | (n, k) => if (k == NameKind.free && env.scope.kind == .function && env.kindOf n == some .cell) = true then (n, NameKind.cell) else (n, k)).lookup y = some .globalImplicit := by
    intro names
    induction names with
    | nil => intro h; cases h
    | cons z r ih =>
      obtain ⟨n, j⟩ := z
      intro h
      rw [List.lookup_cons] at h
      rw [List.map_cons, List.lookup_cons]
      by_cases hc : (j == NameKind.free && env.scope.kind == .function && env.kindOf n == some .cell) = true
      · simp only [hc, if_true]
        cases e : y == n with
        | true =>
          rw [e] at h
          have h : j = .globalImplicit := Option.some.inj h
          rw [h] at hc
          simp at hc
        | false => rw [e] at h; exact ih h
      · simp only [hc, Bool.false_eq_true, if_false]
        cases e : y == n with
        | true => rw [e] at h; exact h
        | false => rw [e] at h; exact ih h
  exact key scope.names h
def compScB (sc : Scope) (N : List Str) (scope : Scope) (x : Str) : Bool :=
  decide (scope.kind = .function) && (decide (scope.names.lookup x = some .local) || decide (scope.names.lookup x = some .cell)) && scope.names.all (fun y => !decide (y.2 = .local) || decide (scope.names.lookup y.1 = some .local)) &&
  decide (scope.names.filter (fun y => y.2 == .cell) = if scope.names.lookup x = some .cell then [(x, .cell)] else []) &&
  scope.names.all (fun y => !decide (y.2 = .free) || (decide (sc.names.lookup y.1 = some .cell) || decide (sc.names.lookup y.1 = some .free))) && N.all (fun y => !decide (scope.names.lookup y = some .local) || decide (y = x)) &&
  decide (scope.names.lookup ("" : Str) = Option.none) && decide ((x :: hide x N).Nodup)
theorem compSc {scope sc : Scope} {N : List Str} {x : Str} (hs : X.env.scope = sc) (hN : X.N = N) (h : compScB sc N scope x = true) : CompSc X scope x := by
  subst hs hN
  simp only [compScB, Bool.and_eq_true, decide_eq_true_eq, List.all_eq_true, Bool.or_eq_true, Bool.not_eq_true', decide_eq_false_iff_not] at h
  obtain ⟨⟨⟨⟨⟨⟨⟨h1, h2⟩, h3⟩, h4⟩, h5⟩, h6⟩, h7⟩, h8⟩ := h
  exact ⟨h1, h2, fun y hy e => (h3 y hy).resolve_left fun z => z e, h4, fun y hy e => (h5 y hy).resolve_left fun z => z e, fun y hy e => (h6 y hy).resolve_left fun z => z e, h7, h8⟩
end
end L2.LW
set_option linter.all false
set_option maxHeartbeats 4000000
namespace L2.LW
open PySem PySem.Spec PyProof.Rows
section
variable {Pg : Program} {w : World} {K : PySem.W.Frag} {mg : Str → Option Value} {base : Heap} {f : Addr} {fd : FuncData} {ps : List Str} {P : Nat → Option Fn} {fuel i n k : Nat}
theorem fn_never {io : List Nat} (h : ∀ ds, callA P fuel n i ds = Option.none) : FnOk Pg w K mg base CX0 k f fd ps (spA K (callA P fuel n) i io) := by
  have no : ∀ vs H Q E, ¬ spA K (callA P fuel n) i io vs H Q E := fun vs H Q E ⟨W, ds, r, outs, _, _, e, _⟩ => by
    rw [h ds] at e; cases e
  exact ⟨fun vs H Q E z => absurd z (no vs H Q E), fun A outer s H args us vs Q E _ _ _ _ z => absurd z (no vs H Q E)⟩
theorem fn_zero {io : List Nat} : FnOk Pg w K mg base CX0 k f fd ps (spA K (callA P fuel 0) i io) := fn_never fun _ => rfl
theorem fn_none {io : List Nat} (h : P i = Option.none) : FnOk Pg w K mg base CX0 k f fd ps (spA K (callA P fuel (n + 1)) i io) := fn_never fun ds => by rw [callA, h]; rfl
theorem law_sp {H : Hp} {a : Addr} {ns : List Int} {E : XK} (h : callN P fuel n i [.lst (ns.map D.int)] = some (.val (.bl true))) (hS : SqL K H a (ns.map V.int)) : spA K (callA P fuel n) i [] [.ref a] H (fun v _ => v = .bl true) E := by
  refine ⟨fun _ => False, [.lst (ns.map D.int)], .val (.bl true), [], fun _ z => z.elim, (Reps.cons (.lst ?_ (.ints ns)) .nil).get', prj_some h, fun v H' _ _ r => ?_⟩
  · rcases hS with hS | hS
    · exact .inl ⟨fun z => z, hS⟩
    · exact .inr hS
  · cases r with
    | val r => cases r; rfl
end
end L2.LW
set_option linter.all false
set_option maxHeartbeats 4000000
namespace L2.LW
open PySem PySem.Spec PyProof.Rows
/-! ### dicts: displays, a store -/
def tDisp1 (tk tv : TE) : TE := fun σ H Q => ∀ p, H p = Option.none → tk σ (upd H p (.dT [])) fun x H1 => tv σ H1 fun y H2 => H2 p = some (.dT []) ∧ ∃ b ks, x = .ref b ∧ H2 b = some (.tup (ks.map kV)) ∧ Q (.ref p) (upd H2 p (.dT [(ks, y)]))
theorem pe_disp1 {X : Cx} {pos : Pos} {k v : Expr} {tk tv : TE} (hu : X.A.units + 64 < cLine) (hk : PE X k tk) (hv : PE X v tv) : PE X (.Dict [some k] [v] pos) (tDisp1 tk tv) := by
  intro pins s σ H Q I q
  have hn := I.hok.fresh (Nat.le_refl s.heap.objs.size)
  have I1 := I.laid (a := s.heap.objs.size) (o := .dT []) (h' := s.heap.push { cls := .type "dict", data := .dict #[] }) (t' := s.toks) (fun _ _ q => Heap.get?_push_of_some _ q) (Nat.le_refl _) (dt_empty s.heap I.big)
  refine wpAny_Dict_any rfl rfl (by simp) (by simp) (pairTrees_cons_walk (thn (hk pins _ σ _ _ I1 (q _ hn)) fun u s1 ⟨x, H1, I2, rx, q1⟩ => thn (hv pins s1 σ H1 _ I2 q1) fun w2 s2 ⟨y, H2, I3, ry, e, b, ks, ex, eb, q2⟩ => pairTrees_nil_walk ?_))
  subst ex
  cases rx
  unfold storeAll
  rw [List.forIn_cons]
  obtain ⟨z, hd, xs, rel, dd⟩ := dt_of I3.hok e
  cases rel
  refine wpAny_bind (wpAny_bind (wpAny_dictSet_heap (hsz := by simp) (knd := tupleKind (mixKind X.prog X.w)) (show X.A.units < cLine by omega) (key_of I3.hok eb) dd fun h' dd' hs => wpAny_pure ?_))
  refine wpAny_pure ⟨.ref s.heap.objs.size, _, ?_, rfl, q2⟩
  obtain ⟨q, es, ep, hq, h2, h3, h4, _, h5⟩ := dd'
  refine d_write I3 (by rw [e]; exact True.intro) hs ⟨q, hq⟩ ⟨by simp [sizeLine_eq], hd, _, ((KT.put (H := H2) (kvs := []) (xs := []) .nil ks eb ry)).keeps fun c ys ec => ?_, q, es, ep, hq, h2, h3, h4, h5⟩
  rw [upd_ne (ne_of ec e (fun z => nomatch z))]
  exact ec
section
variable {X : Cx} {fn : Nat → List D → Option SV} {fa : Nat → List D → Option Ans} {fuel : Nat} {a b c e : Expr} {ca cb cc ce : E} {es : List Expr} {cs : Es} {pos p : Pos} {x : Str} {st : Stmt} {sts : List Stmt} {s : S} {ss s1 s2 : Ss}
theorem i_dnew (t : Bool) : IE X fn (.Dict [] [] pos) (.dnew t) := by
  cases t with
  | false =>
    refine .mk (pe_dnewK.imp fun σ H Q ⟨W, ρ, r, hR, he, q⟩ => ?_)
    simp only [evE] at he; cases he
    exact fun p hp => q _ _ (same_upd hp _) (.new hp upd_same (.dK (ns := []) (ys := []) rfl .nil))
  | true =>
    refine .mk (pe_dnewT.imp fun σ H Q ⟨W, ρ, r, hR, he, q⟩ => ?_)
    simp only [evE] at he; cases he
    exact fun p hp => q _ _ (same_upd hp _) (.new hp upd_same (.dT (ns := []) (ys := []) rfl .nil))
theorem upd_back {H H1 : Hp} {p : Addr} {o o' : HO} (hp : H p = Option.none) (s : Same (upd H p o) H1) : Same H (upd H1 p o') := fun b u q => by
  rw [upd_ne (ne_of_none q hp)]
  exact s b u (by rw [upd_ne (ne_of_none q hp)]; exact q)
theorem i_done (hu : X.A.units + 64 < cLine) (ha : IE X fn a ca) (hb : IE X fn b cb) : IE X fn (.Dict [some a] [b] pos) (.done true ca cb) :=
  .mk <| (pe_disp1 hu ha.v hb.v).imp fun σ H Q ⟨W, ρ, r, hR, he, q⟩ => by
    simp only [evE, Option.bind_eq_some_iff] at he
    obtain ⟨x, e1, y, e2, da, e3, db, e4, e5⟩ := he
    split at e5
    · rename_i hk
      cases e5
      intro p hp
      have s0 := same_upd hp (.dT [])
      have hR0 := hR.add s0 hp upd_same
      refine ⟨_, ρ, x, hR0, e1, fun v1 H1 s1 f1 => ⟨_, ρ, y, hR0.same s1, e2, fun v2 H2 s2 f2 => ⟨s2 _ _ (s1 _ _ upd_same), ?_⟩⟩⟩
      have r1 := (f1.same s2).toD e3
      have r2 := f2.toD e4
      cases da with
      | tup l =>
        obtain ⟨ms, hms⟩ : ∃ ms, ints? l = some ms := by simp only [isKey, Option.isSome_iff_exists] at hk; exact hk
        cases r1 with
        | tup h1 rp =>
          have z1 := rp.ofInts hms
          have z2 := ints_is hms
          subst z1 z2
          refine ⟨_, ms.map Sum.inl, rfl, by rw [keys_kV]; exact h1, q _ _ (upd_back hp (s1.trans s2)) (.new hp upd_same (.dT (ns := [ms]) (ys := [v2]) rfl (.cons ?_ .nil)))⟩
          have e2p := s2 _ _ (s1 _ _ (upd_same (H := H) (a := p) (o := .dT [])))
          refine r2.ext ⟨fun b o q n => ?_, fun b ys q => ?_, fun b o u q => ?_, fun b w => .inl w⟩
          · rw [upd_ne (fun z => n (.inr z))]; exact q
          · rw [upd_ne (fun z => by rw [z, e2p] at q; cases q)]; exact q
          · rw [upd_ne (fun z => by rw [z, e2p] at q; cases q)]; exact q
      | _ => simp [isKey] at hk
    · cases e5
/-! ### d[k] = v -/
theorem repl_dK (i : Int) (v : V) : ∀ {ns : List Int} {ys : List V}, ns.length = ys.length → (dKof ns ys).map (fun kv => if kv.1 = Sum.inl i then (kv.1, v) else kv) = dKof ns (List.zipWith (fun n y => if n = i then v else y) ns ys)
  | [], [], _ => rfl
  | n :: ns, y :: ys, h => by
    have ih := repl_dK i v (ns := ns) (ys := ys) (by simpa using h)
    show (if (Sum.inl n : Key) = Sum.inl i then ((Sum.inl n : Key), v) else (Sum.inl n, y)) :: (dKof ns ys).map _ = (Sum.inl n, if n = i then v else y) :: dKof ns _
    rw [ih]
    by_cases e : n = i <;> simp [e]
theorem repl_dT (i : List Int) (v : V) : ∀ {ns : List (List Int)} {ys : List V}, ns.length = ys.length → (dTof ns ys).map (fun kv => if kv.1 = i.map Sum.inl then (kv.1, v) else kv) = dTof ns (List.zipWith (fun n y => if n = i then v else y) ns ys)
  | [], [], _ => rfl
  | n :: ns, y :: ys, h => by
    have ih := repl_dT i v (ns := ns) (ys := ys) (by simpa using h)
    show (if (n.map Sum.inl : List Key) = i.map Sum.inl then ((n.map Sum.inl : List Key), v) else (n.map Sum.inl, y)) :: (dTof ns ys).map _ = (n.map Sum.inl, if n = i then v else y) :: dTof ns _
    rw [ih]
    by_cases e : n = i
    · simp [e]
    · have : ¬ ((n.map Sum.inl : List Key) = i.map Sum.inl) := fun z => e (inls_inj z)
      simp [e, this]
theorem reps_zipK {K : PySem.W.Frag} {W : Addr → Prop} {H : Hp} {d : D} {v : V} (rv : Rep K W H d v) (i : Int) : ∀ {ns : List Int} {vs : List D} {ys : List V}, Reps K W H vs ys → Reps K W H (List.zipWith (fun k' v' => if eqD k' (.int i) then d else v') (ns.map D.int) vs) (List.zipWith (fun n y => if n = i then v else y) ns ys)
  | [], _, _, _ => by simp; exact .nil
  | n :: ns, _, _, .nil => by simp; exact .nil
  | n :: ns, _, _, .cons h t => by
    have ih := reps_zipK rv i (ns := ns) t
    simp only [List.map_cons, List.zipWith_cons_cons]
    refine .cons ?_ ih
    by_cases e : n = i
    · simp [e, eqD]; exact rv
    · simp [e, eqD]; exact h
theorem reps_zipT {K : PySem.W.Frag} {W : Addr → Prop} {H : Hp} {d : D} {v : V} (rv : Rep K W H d v) (i : List Int) : ∀ {ns : List (List Int)} {vs : List D} {ys : List V}, Reps K W H vs ys → Reps K W H (List.zipWith (fun k' v' => if eqD k' (kT i) then d else v') (ns.map kT) vs) (List.zipWith (fun n y => if n = i then v else y) ns ys)
  | [], _, _, _ => by simp; exact .nil
  | n :: ns, _, _, .nil => by simp; exact .nil
  | n :: ns, _, _, .cons h t => by
    have ih := reps_zipT rv i (ns := ns) t
    simp only [List.map_cons, List.zipWith_cons_cons]
    refine .cons ?_ ih
    have : eqD (kT n) (kT i) = decide (n = i) := by simp [kT, eqD, eqDs_ints]
    rw [this]
    by_cases e : n = i
    · simp [e]; exact rv
    · simp [e]; exact h
/-- the heap's dict with a pair more -/
theorem dput_K {K : PySem.W.Frag} {W : Addr → Prop} {H : Hp} {ns : List Int} {ys : List V} {vs : List D} {d : D} {v : V} (h : ns.length = ys.length) (r : Reps K W H vs ys) (i : Int) (rv : Rep K W H d v) :
    ORep K W H (dput false (ns.map D.int) vs (.int i) d) (.dK (putK (dKof ns ys) (.inl i) v)) := by
  unfold putK dput
  rw [valV_any, dK_some h]
  split
  · rw [repl_dK i v h]
    exact .dK (by simp [h]) (reps_zipK rv i r)
  · have e : dKof ns ys ++ [(Sum.inl i, v)] = dKof (ns ++ [i]) (ys ++ [v]) := by
      unfold dKof
      rw [List.map_append, List.zip_append (by simpa using h)]
      rfl
    rw [e]
    have := ORep.dK (K := K) (W := W) (H := H) (ns := ns ++ [i]) (ys := ys ++ [v]) (by simp [h]) (r.append (.cons rv .nil))
    rw [List.map_append] at this
    exact this
theorem dput_T {K : PySem.W.Frag} {W : Addr → Prop} {H : Hp} {ns : List (List Int)} {ys : List V} {vs : List D} {d : D} {v : V} (h : ns.length = ys.length) (r : Reps K W H vs ys) (i : List Int) (rv : Rep K W H d v) :
    ORep K W H (dput true (ns.map kT) vs (kT i) d) (.dT (putK (dTof ns ys) (i.map Sum.inl) v)) := by
  unfold putK dput
  rw [valV_any, dT_some h]
  split
  · rw [repl_dT i v h]
    exact .dT (by simp [h]) (reps_zipT rv i r)
  · have e : dTof ns ys ++ [(i.map Sum.inl, v)] = dTof (ns ++ [i]) (ys ++ [v]) := by
      unfold dTof
      rw [List.map_append, List.zip_append (by simpa using h)]
      rfl
    rw [e]
    have := ORep.dT (K := K) (W := W) (H := H) (ns := ns ++ [i]) (ys := ys ++ [v]) (by simp [h]) (r.append (.cons rv .nil))
    rw [List.map_append] at this
    exact this
theorem dKof_len {ns : List Int} {ys : List V} (h : ns.length = ys.length) : (dKof ns ys).length = ns.length := by simp [dKof, h]
theorem dTof_len {ns : List (List Int)} {ys : List V} (h : ns.length = ys.length) : (dTof ns ys).length = ns.length := by simp [dTof, h]
theorem s_dset (i : Nat) {pos' : Pos} (hu : X.A.units + 64 < cLine) (hN : X.N[i]? = some x) (hv : Vis X.env.scope x) (ha : IE X (prj fa) a ca) (hb : IE X (prj fa) b cb) (hd : (x == ("__debug__" : Str)) = false) (hcd : (x == ("__classdict__" : Str)) = false)
    (hs : swapsWith b (some (.Subscript (.Name x p) a pos')) pos.line X.env = pure false := by rfl) : IS X (exS fa fuel (.dset i ca cb)) (.Assign [.Subscript (.Name x p) a pos'] b pos) :=
  .mk <| (ps_dput (by omega) (pe_var hN hv hd hcd) ha.v hb.v hs).imp fun D0 σ H ⟨W, ρ, y, hR, hy, q⟩ => by
    simp only [exS] at hy
    split at hy
    · rename_i x h
      split at hy
      · rename_i t ks vs hc
        simp only [Option.bind_eq_some_iff] at hy
        obtain ⟨r, e1, d, e2, r', e3, d', e4, e5⟩ := hy
        split at e5
        · rename_i hk
          cases e5
          rw [Bool.and_eq_true, decide_eq_true_iff] at hk
          refine ⟨W, ρ, r, hR, e1, fun v H1 s1 f1 => ?_⟩
          have hR1 := hR.same s1
          obtain ⟨a, o, h1, h2, h3, h4⟩ := hR1.own i _ _ h hc
          refine ⟨_, h1, W, ρ, r', hR1, e3, fun v2 H2 s2 f2 => ?_⟩
          have rv := (f1.same s2).toD e2
          have rk := f2.toD e4
          have le := line_eq
          cases h4 with
          | dK l rp =>
            rename_i ns ys
            cases d' with
            | int n =>
              cases rk
              refine ⟨a, _, rfl, DPut.k (k := .inl n) (s2 _ _ h3) (by rw [dKof_len l]; simp at hk; omega), q W σ _ (post_put hR h hc h1 (s1.trans s2) (s2 _ _ h3) ⟨fun _ z => (nomatch z), fun _ _ z => (nomatch z)⟩ (dput_K l (rp.ext (.same s2)) n rv))⟩
            | _ => simp [isKey] at hk
          | dT l rp =>
            rename_i ns ys
            cases d' with
            | tup kl =>
              obtain ⟨ms, hms⟩ : ∃ ms, ints? kl = some ms := by have := hk.1; simp only [isKey, Option.isSome_iff_exists] at this; exact this
              cases rk with
              | tup hb rpb =>
              have z1 := rpb.ofInts hms
              have z2 := ints_is hms
              subst z1 z2
              refine ⟨a, _, rfl, DPut.t (k := ms.map Sum.inl) (s2 _ _ h3) (by rw [hb, keys_kV]) (by rw [dTof_len l]; simp at hk; omega), q W σ _ (post_put hR h hc h1 (s1.trans s2) (s2 _ _ h3) ⟨fun _ z => (nomatch z), fun _ _ z => (nomatch z)⟩ (dput_T l (rp.ext (.same s2)) ms rv))⟩
            | _ => simp [isKey] at hk
        · cases e5
      · cases hy
    · cases hy
end
end L2.LW
set_option linter.all false
set_option maxHeartbeats 4000000
namespace L2.LW
open PySem PySem.Spec PyProof.Rows
/-! ### calls that change dicts -/
/-- what an argument is: H ahead of all of them, H' behind -/
inductive ArgOk (K : PySem.W.Frag) (ρ : LW.Env) (σ : St) (H H' : Hp) : AV → V → Prop where
  | e {d : D} {v : V} (h : ∀ W, Rep K W H' d v) : ArgOk K ρ σ H H' (.e d) v
  | l {ds : List D} {a : Addr} {xs : List V} (e : SqL K H' a xs ∧ Rd H' a (.lst xs) ∨ KLst K a xs) (r : ∀ W, Reps K W H' ds xs) : ArgOk K ρ σ H H' (.l ds) (.ref a)
  | s {i : Nat} {x : SV} {d : D} {a : Addr} (h : ρ[i]? = some (some x)) (c : x.cell = some d) (k : isDct d = true) (e : σ[i]? = some (some (.ref a))) : ArgOk K ρ σ H H' (.s i d) (.ref a)
  | n {t : Bool} {a : Addr} {o : HO} (h : H a = Option.none) (e : H' a = some o) (r : ∀ W, ORep K W H' (.dct t [] []) o) : ArgOk K ρ σ H H' (.n t) (.ref a)
theorem ArgOk.same {K : PySem.W.Frag} {ρ : LW.Env} {σ : St} {H H' H'' : Hp} {x : AV} {v : V} (h : ArgOk K ρ σ H H' x v) (s : Same H' H'') : ArgOk K ρ σ H H'' x v := by
  cases h with
  | e h => exact .e fun W => (h W).ext (.same s)
  | l e r =>
    refine .l ?_ fun W => (r W).ext (.same s)
    rcases e with ⟨e1, e2⟩ | e
    · refine .inl ⟨s.seq e1, ?_⟩
      rcases e2 with e2 | ⟨o, e2⟩
      · exact .inl (s _ _ e2)
      · exact .inr ⟨o, s _ _ e2⟩
    · exact .inr e
  | s h c k e => exact .s h c k e
  | n h e r => exact .n h (s _ _ e) fun W => (r W).ext (.same s)
theorem ArgOk.back {K : PySem.W.Frag} {ρ : LW.Env} {σ : St} {H H' H'' : Hp} {x : AV} {v : V} (h : ArgOk K ρ σ H' H'' x v) (s : Same H H') : ArgOk K ρ σ H H'' x v := by
  cases h with
  | e h => exact .e h
  | l e r => exact .l e r
  | s h c k e => exact .s h c k e
  | n h e r => exact .n (s.free h) e r
section
variable {X : Cx} {fn : Nat → List D → Option SV} {fa : Nat → List D → Option Ans} {fuel : Nat} {a b c e : Expr} {ca cb cc ce : E} {es : List Expr} {cs : Es} {ma : MA} {m : M} {pos p : Pos} {x : Str} {st : Stmt} {sts sts' : List Stmt} {s : S} {ss s1 s2 : Ss}
end
/-- what became of the dicts, argument by argument -/
inductive OutsX (K : PySem.W.Frag) (W : Addr → Prop) (H : Hp) : List AV → List V → List D → Prop where
  | nil : OutsX K W H [] [] []
  | e {d : D} {v : V} {xs : List AV} {vs : List V} {os : List D} (t : OutsX K W H xs vs os) : OutsX K W H (.e d :: xs) (v :: vs) os
  | l {d : List D} {v : V} {xs : List AV} {vs : List V} {os : List D} (t : OutsX K W H xs vs os) : OutsX K W H (.l d :: xs) (v :: vs) os
  | s {i : Nat} {d : D} {a : Addr} {o : HO} {d' : D} {xs : List AV} {vs : List V} {os : List D} (e : H a = some o) (r : ORep K W H d' o) (t : OutsX K W H xs vs os) : OutsX K W H (.s i d :: xs) (.ref a :: vs) (d' :: os)
  | n {b : Bool} {v : V} {d' : D} {xs : List AV} {vs : List V} {os : List D} (t : OutsX K W H xs vs os) : OutsX K W H (.n b :: xs) (v :: vs) (d' :: os)
section
variable {X : Cx} {fn : Nat → List D → Option SV} {fa : Nat → List D → Option Ans} {fuel : Nat} {a b c e : Expr} {ca cb cc ce : E} {es : List Expr} {cs : Es} {ma : MA} {m : M} {pos p : Pos} {x : Str} {st : Stmt} {sts sts' : List Stmt} {s : S} {ss s1 s2 : Ss}
theorem OutsX.plain {K : PySem.W.Frag} {W W' : Addr → Prop} {H : Hp} {xs : List AV} {vs : List V} {os : List D} (h : OutsX K W H xs vs os) (p : os.all plainO = true) : OutsX K W' H xs vs os := by
  induction h with
  | nil => exact .nil
  | e _ ih => exact .e (ih p)
  | l _ ih => exact .l (ih p)
  | s e r _ ih =>
    simp only [List.all_cons, Bool.and_eq_true] at p
    exact .s e (r.plain p.1) (ih p.2)
  | n _ ih =>
    simp only [List.all_cons, Bool.and_eq_true] at p
    exact .n (ih p.2)
theorem Res.fine {K : PySem.W.Frag} {W W' : Addr → Prop} {H H' : Hp} {r : SV} {v : V} (h : Res K W' H H' r v) (p : r.fine = true) : Res K W H H' r v := by
  cases h with
  | val h => exact .val (h.plain p)
  | new h e r => exact .new h e (r.plain p)
  | see h e r => cases p
theorem SPost.wf' {K : PySem.W.Frag} {W W' : Addr → Prop} {ρ ρ' : LW.Env} {σ σ' : St} {H H' : Hp} (p : SPost K W ρ σ H W' ρ' σ' H') : Wf W' H' := p.r.wf
/-! ### statements -/
end
end L2.LW
set_option linter.all false
set_option maxHeartbeats 4000000
namespace L2.LW
open PySem PySem.Spec PyProof.Rows
/-! ### a comprehension given to a name: which way -/
def swB (sc scope : Scope) (y : Str) (l1 l2 : Nat) : Bool := (if sc.kind.isAnnotationScope then ScopeKind.function else sc.kind) == .function && sc.names.lookup y == some .local && l1 == l2 && !(scope.names.any fun (n, k) => n == y && (k == .local || k == .cell))
theorem sw_comp {env : PySem.Env} {sc scope : Scope} {elt : Expr} {gens : List Comprehension} {y : Str} {py pos : Pos} {l : Nat} {b : Bool} (hs : env.scope = sc) (h : swB sc scope y py.line pos.line = b) :
    swapsWith (.ListComp elt gens scope pos) (some (.Name y py)) l env = pure b := by
  subst hs; subst h; rfl
/-! ### a slot's own object is changed no more -/
section
variable {X : Cx} {fn : Nat → List D → Option SV} {fa : Nat → List D → Option Ans} {fuel : Nat} {st : Stmt} {s : S}
theorem ev_comp (g : Bool) (src : Es) (cond elt : E) : ∀ ρ, evT fn (.comp g src cond elt) ρ = (evE fn (.comp g src cond elt) ρ).bind truth := fun ρ => by
  rw [evT, evE]
  cases evEs fn src ρ with
  | none => rfl
  | some rs =>
    simp only [Option.bind_some]
    cases itemsOf g rs with
    | none => rfl
    | some ds =>
      simp only [Option.bind_some]
      split
      · cases compL (fun d => evT fn cond (some (.val d) :: ρ)) (fun d => evE fn elt (some (.val d) :: ρ)) ds <;> rfl
      · rfl
theorem it_ListComp {env : PySem.Env} {a b c d} : ∀ whole, PySem.isTrue (.ListComp a b c d) env whole = (do let v ← whole; standAt (Expr.ListComp a b c d).pos; holding [v] (truthy v)) := fun _ => rfl
/-! ### the greatest, the least, the sum -/
end
end L2.LW
set_option linter.all false
set_option maxHeartbeats 4000000
namespace L2.LW
open PySem PySem.W PyProof.Rows
/-! ### the sort's questions, answered by numbers that all differ -/
section
variable {n : Nat} {r : Nat → Int} {cmp : Nat → Nat → (Bool → Shared → Prop) → Shared → Prop} {I : Shared → Prop}
/-- the number at a place -/
def kk (r : Nat → Int) (p : Array Nat) (i : Nat) : Int := r (p.getD i 0)
structure Pm (n : Nat) (r : Nat → Int) (p : Array Nat) : Prop where
  perm : p.Perm (List.range n).toArray
  size : p.size = n
  lt : ∀ i, i < n → p.getD i 0 < n
  inj : ∀ i j, i < n → j < n → i ≠ j → kk r p i ≠ kk r p j
theorem Pm.of {p : Array Nat} (hr : ∀ i j, i < n → j < n → i ≠ j → r i ≠ r j) (h : p.Perm (List.range n).toArray) : Pm n r p := by
  have hs : p.size = n := by have := h.size_eq; simpa using this
  have hl : p.toList.Perm (List.range n) := Array.perm_iff_toList_perm.mp h
  have hlt : ∀ i, i < n → p.getD i 0 < n := fun i hi => by
    have hi' : i < p.size := by omega
    have : p[i] ∈ p.toList := by simp
    have := hl.mem_iff.mp this
    rw [List.mem_range] at this
    simpa [Array.getD, hi'] using this
  have hnd : p.toList.Nodup := hl.nodup_iff.mpr List.nodup_range
  refine ⟨h, hs, hlt, fun i j hi hj ne => hr _ _ (hlt i hi) (hlt j hj) fun e => ne ?_⟩
  have hi' : i < p.size := by omega
  have hj' : j < p.size := by omega
  simp only [Array.getD, hi', hj', dif_pos] at e
  have e' : p.toList[i]'(by simpa using hi') = p.toList[j]'(by simpa using hj') := by simpa using e
  exact (List.getElem_inj hnd).mp e'
def Up (r : Nat → Int) (p : Array Nat) (k : Nat) : Prop := ∀ i j, i < j → j < k → kk r p i < kk r p j
def Dn (r : Nat → Int) (p : Array Nat) (k : Nat) : Prop := ∀ i j, i < j → j < k → kk r p j < kk r p i
theorem Up.one {p : Array Nat} {k : Nat} (h : k ≤ 1) : Up r p k := fun i j h1 h2 => by omega
theorem Dn.one {p : Array Nat} {k : Nat} (h : k ≤ 1) : Dn r p k := fun i j h1 h2 => by omega
theorem Up.next {p : Array Nat} {k : Nat} (h : Up r p k) (hk : 1 ≤ k) (e : kk r p (k - 1) < kk r p k) : Up r p (k + 1) := fun i j h1 h2 => by
  by_cases hj : j = k
  · subst hj
    by_cases hi : i = j - 1
    · rw [hi]; exact e
    · exact Int.lt_trans (h i (j - 1) (by omega) (by omega)) e
  · exact h i j h1 (by omega)
theorem Dn.next {p : Array Nat} {k : Nat} (h : Dn r p k) (hk : 1 ≤ k) (e : kk r p k < kk r p (k - 1)) : Dn r p (k + 1) := fun i j h1 h2 => by
  by_cases hj : j = k
  · subst hj
    by_cases hi : i = j - 1
    · rw [hi]; exact e
    · exact Int.lt_trans e (h i (j - 1) (by omega) (by omega))
  · exact h i j h1 (by omega)
theorem Pm.lt' {p : Array Nat} (P : Pm n r p) {i j : Nat} (hi : i < n) (hj : j < n) (ne : i ≠ j) (h : ¬ kk r p i < kk r p j) : kk r p j < kk r p i := by
  have := P.inj i j hi hj ne
  omega
variable (hc : ∀ i j C s, i < n → j < n → I s → (∀ s', I s' → C (decide (r i < r j)) s') → cmp i j C s)
include hc
theorem st_asc {p : Array Nat} (P : Pm n r p) {Q : Nat → Shared → Prop} : ∀ (f m : Nat) (s : Shared), 1 ≤ m → m + f = n → I s → Up r p m → (∀ k s', I s' → m ≤ k → k ≤ n → Up r p k → (k = n ∨ kk r p k < kk r p (k - 1)) → (k = m ∨ kk r p m > kk r p (m - 1)) → Q k s') → (kas_asc p f m).kasWp cmp Q s
  | 0, m, s, h1, h2, hI, hu, q => q m s hI (Nat.le_refl _) (by omega) hu (.inl (by omega)) (.inl rfl)
  | f + 1, m, s, h1, h2, hI, hu, q => by
    refine hc _ _ _ s (P.lt m (by omega)) (P.lt (m - 1) (by omega)) hI fun s' hI' => ?_
    by_cases h : kk r p m < kk r p (m - 1)
    · have e : decide (r (p.getD m 0) < r (p.getD (m - 1) 0)) = true := decide_eq_true h
      simp only [e, if_true]
      exact q m s' hI' (Nat.le_refl _) (by omega) hu (.inr h) (.inl rfl)
    · have e : decide (r (p.getD m 0) < r (p.getD (m - 1) 0)) = false := decide_eq_false h
      simp only [e, Bool.false_eq_true, if_false]
      have hlt := P.lt' (by omega) (by omega) (by omega) h
      exact st_asc P f (m + 1) s' (by omega) (by omega) hI' (hu.next h1 hlt) fun k s'' hs h3 h4 h5 h6 _ => q k s'' hs (by omega) h4 h5 h6 (.inr hlt)
theorem st_desc {p : Array Nat} (P : Pm n r p) {Q : Array Nat × Nat × Nat → Shared → Prop} : ∀ (f m : Nat) (s : Shared), 1 ≤ m → m + f = n → I s → Dn r p m → (∀ k s', I s' → m ≤ k → k ≤ n → Dn r p k → Q (p, k, 0) s') → (kas_desc f p m 0).kasWp cmp Q s
  | 0, m, s, h1, h2, hI, hu, q => q m s hI (Nat.le_refl _) (by omega) hu
  | f + 1, m, s, h1, h2, hI, hu, q => by
    refine hc _ _ _ s (P.lt m (by omega)) (P.lt (m - 1) (by omega)) hI fun s' hI' => ?_
    by_cases h : kk r p m < kk r p (m - 1)
    · have e : decide (r (p.getD m 0) < r (p.getD (m - 1) 0)) = true := decide_eq_true h
      simp only [e, if_true, Nat.lt_irrefl, if_false, gt_iff_lt]
      exact st_desc P f (m + 1) s' (by omega) (by omega) hI' (hu.next h1 h) fun k s'' hs h3 h4 h5 => q k s'' hs (by omega) h4 h5
    · have e : decide (r (p.getD m 0) < r (p.getD (m - 1) 0)) = false := decide_eq_false h
      simp only [e, Bool.false_eq_true, if_false]
      have hlt := P.lt' (by omega) (by omega) (by omega) h
      refine hc _ _ _ s' (P.lt (m - 1) (by omega)) (P.lt m (by omega)) hI' fun s'' hI'' => ?_
      have e2 : decide (r (p.getD (m - 1) 0) < r (p.getD m 0)) = true := decide_eq_true hlt
      simp only [e2, if_true]
      exact q m s'' hI'' (Nat.le_refl _) (by omega) hu
omit hc in
theorem Pm.rev {p : Array Nat} (hr : ∀ i j, i < n → j < n → i ≠ j → r i ≠ r j) (P : Pm n r p) (i j : Nat) : Pm n r (kas_rev p i j) := Pm.of hr ((mirror_perm p i j _).trans P.perm)
omit hc in
theorem kk_rev {p : Array Nat} {m k : Nat} (hm : m ≤ p.size) : kk r (kas_rev p 0 m) k = if k < m then kk r p (m - 1 - k) else kk r p k := by
  have e := getElem?_mirror_all (i := 0) hm k
  simp only [Nat.zero_le, true_and, Nat.zero_add] at e
  by_cases h : k < m
  · rw [if_pos h] at e ⊢
    simp only [kk, kas_rev, Array.getD_eq_getD_getElem?, e]
  · rw [if_neg h] at e ⊢
    simp only [kk, kas_rev, Array.getD_eq_getD_getElem?, e]
omit hc in
theorem Dn.rev {p : Array Nat} {m : Nat} (hm : m ≤ p.size) (h : Dn r p m) : Up r (kas_rev p 0 m) m := fun i j h1 h2 => by
  rw [kk_rev hm, kk_rev hm, if_pos (by omega), if_pos h2]
  exact h _ _ (by omega) (by omega)
theorem st_tail3 (hr : ∀ i j, i < n → j < n → i ≠ j → r i ≠ r j) {p : Array Nat} (P : Pm n r p) {m : Nat} {s : Shared} {Q : Nat × Array Nat → Shared → Prop} (h1 : 1 ≤ m) (h2 : m ≤ n) (hI : I s) (hd : Dn r p m)
    (q : ∀ k p' s', I s' → k ≤ n → 1 ≤ k → Pm n r p' → Up r p' k → Q (k, p') s') : (kas_tail3 m n p).kasWp cmp Q s := by
  unfold kas_tail3
  rw [KasT.kasWp_bind]
  have P' := P.rev hr 0 m
  refine st_asc hc P' (n - m) m s h1 (by omega) hI (hd.rev (by rw [P.size]; exact h2)) fun k s' hs h3 h4 h5 _ _ => ?_
  exact q k _ s' hs h4 (by omega) P' h5
theorem st_descPart (hr : ∀ i j, i < n → j < n → i ≠ j → r i ≠ r j) {p : Array Nat} (P : Pm n r p) {s : Shared} {Q : Nat × Array Nat → Shared → Prop} (h2 : 2 ≤ n) (hI : I s) (hd : kk r p 1 < kk r p 0)
    (q : ∀ k p' s', I s' → k ≤ n → 1 ≤ k → Pm n r p' → Up r p' k → Q (k, p') s') : (kas_descPart 1 n p).kasWp cmp Q s := by
  unfold kas_descPart
  rw [KasT.kasWp_bind]
  refine st_desc hc P (n - 2) 2 s (by omega) (by omega) hI ((Dn.one (k := 1) (Nat.le_refl _)).next (Nat.le_refl _) hd) fun k s' hs h3 h4 h5 => ?_
  simp only [Nat.lt_irrefl, if_false, gt_iff_lt]
  exact st_tail3 hc hr P (by omega) h4 hs h5 q
theorem st_count (hr : ∀ i j, i < n → j < n → i ≠ j → r i ≠ r j) {p : Array Nat} (P : Pm n r p) {s : Shared} {Q : Nat × Array Nat → Shared → Prop} (h2 : 2 ≤ n) (hI : I s)
    (q : ∀ k p' s', I s' → k ≤ n → 1 ≤ k → Pm n r p' → Up r p' k → Q (k, p') s') : (kas_count n p).kasWp cmp Q s := by
  unfold kas_count
  rw [KasT.kasWp_bind]
  refine st_asc hc P (n - 1) 1 s (Nat.le_refl _) (by omega) hI (Up.one (Nat.le_refl _)) fun k s' hs h3 h4 h5 h6 h7 => ?_
  by_cases hk : k = n
  · subst hk
    simp only [beq_self_eq_true, if_true]
    exact q _ p s' hs (Nat.le_refl _) h3 P h5
  · have e : (k == n) = false := by simpa using hk
    simp only [e, Bool.false_eq_true, if_false]
    by_cases h1 : k > 1
    · simp only [h1, if_true]
      refine hc _ _ _ s' (P.lt 0 (by omega)) (P.lt (k - 1) (by omega)) hs fun s'' hs' => ?_
      have e2 : decide (r (p.getD 0 0) < r (p.getD (k - 1) 0)) = true := decide_eq_true (h5 0 (k - 1) (by omega) (by omega))
      simp only [e2, if_true]
      exact q _ p s'' hs' h4 h3 P h5
    · have ek : k = 1 := by omega
      subst ek
      simp only [Nat.lt_irrefl, if_false, gt_iff_lt]
      exact st_descPart hc hr P h2 hs (h6.resolve_left hk) q
theorem st_place {p : Array Nat} (P : Pm n r p) {k : Nat} (hk : k < n) {Q : Nat → Shared → Prop} : ∀ (f l h : Nat) (s : Shared), h - l ≤ f → l ≤ h → h ≤ k → I s → (∀ i, i < l → kk r p i < kk r p k) → (∀ i, h ≤ i → i < k → kk r p k < kk r p i) → Up r p k →
    (∀ l s', I s' → l ≤ k → (∀ i, i < l → kk r p i < kk r p k) → (∀ i, l ≤ i → i < k → kk r p k < kk r p i) → Q l s') → (kas_place p k f l h).kasWp cmp Q s
  | 0, l, h, s, hf, h1, h2, hI, hl, hh, hu, q => q l s hI (by omega) hl fun i h3 h4 => hh i (by omega) h4
  | f + 1, l, h, s, hf, h1, h2, hI, hl, hh, hu, q => by
    unfold kas_place
    by_cases hge : l ≥ h
    · rw [if_pos hge]
      exact q l s hI (by omega) hl fun i h3 h4 => hh i (by omega) h4
    · rw [if_neg hge]
      refine hc _ _ _ s (P.lt k hk) (P.lt _ (by omega)) hI fun s' hI' => ?_
      by_cases hm : kk r p k < kk r p ((l + h) / 2)
      · have e : decide (r (p.getD k 0) < r (p.getD ((l + h) / 2) 0)) = true := decide_eq_true hm
        simp only [e, if_true]
        refine st_place P hk f l ((l + h) / 2) s' (by omega) (by omega) (by omega) hI' hl (fun i h3 h4 => ?_) hu q
        by_cases hi : i = (l + h) / 2
        · rw [hi]; exact hm
        · exact Int.lt_trans hm (hu _ _ (by omega) h4)
      · have e : decide (r (p.getD k 0) < r (p.getD ((l + h) / 2) 0)) = false := decide_eq_false hm
        simp only [e, Bool.false_eq_true, if_false]
        have hlt := P.lt' hk (by omega) (by omega) hm
        refine st_place P hk f ((l + h) / 2 + 1) h s' (by omega) (by omega) h2 hI' (fun i h3 => ?_) hh hu q
        by_cases hi : i = (l + h) / 2
        · rw [hi]; exact hlt
        · exact Int.lt_trans (hu i ((l + h) / 2) (by omega) (by omega)) hlt
omit hc in
theorem kk_bubble {p : Array Nat} {k d : Nat} (hk : k < p.size) (hd : d ≤ k) (i : Nat) : kk r (bubble p k d) i = if i = k - d then kk r p k else if k - d < i ∧ i ≤ k then kk r p (i - 1) else kk r p i := by
  have e := getElem?_bubble hk d hd i
  by_cases h : i = k - d
  · rw [if_pos h] at e ⊢
    simp only [kk, Array.getD_eq_getD_getElem?, e]
  · rw [if_neg h] at e ⊢
    by_cases h' : k - d < i ∧ i ≤ k
    · rw [if_pos h'] at e ⊢
      simp only [kk, Array.getD_eq_getD_getElem?, e]
    · rw [if_neg h'] at e ⊢
      simp only [kk, Array.getD_eq_getD_getElem?, e]
theorem st_bin (hr : ∀ i j, i < n → j < n → i ≠ j → r i ≠ r j) {Q : Array Nat → Shared → Prop} : ∀ (f : Nat) (p : Array Nat) (k : Nat) (s : Shared), 1 ≤ k → k + f = n → Pm n r p → I s → Up r p k → (∀ p' s', I s' → Pm n r p' → Up r p' n → Q p' s') → (kas_bin f p k).kasWp cmp Q s
  | 0, p, k, s, h1, h2, P, hI, hu, q => q p s hI P (by rw [← h2]; exact hu)
  | f + 1, p, k, s, h1, h2, P, hI, hu, q => by
    unfold kas_bin
    rw [KasT.kasWp_bind]
    have hk : k < n := by omega
    refine st_place hc P hk k 0 k s (by omega) (Nat.zero_le _) (Nat.le_refl _) hI (fun i h => by omega) (fun i h3 h4 => by omega) hu fun l s' hI' hl h3 h4 => ?_
    have hks : k < p.size := by rw [P.size]; exact hk
    have P' : Pm n r (bubble p k (k - l)) := Pm.of hr ((bubble_perm p k _).trans P.perm)
    refine st_bin hr f _ (k + 1) s' (by omega) (by omega) P' hI' (fun i j hij hj => ?_) q
    rw [kk_bubble hks (by omega), kk_bubble hks (by omega)]
    have ekl : k - (k - l) = l := by omega
    rw [ekl]
    by_cases hi : i = l
    · rw [if_pos hi, if_neg (by omega)]
      rw [if_pos (by omega)]
      exact h4 _ (by omega) (by omega)
    · rw [if_neg hi]
      by_cases hjl : j = l
      · rw [if_pos hjl, if_neg (by omega)]
        exact h3 i (by omega)
      · rw [if_neg hjl]
        by_cases hi2 : l < i ∧ i ≤ k
        · rw [if_pos hi2, if_pos (by omega)]
          exact hu _ _ (by omega) (by omega)
        · rw [if_neg hi2]
          by_cases hj2 : l < j ∧ j ≤ k
          · rw [if_pos hj2]
            by_cases he : i = j - 1
            · omega
            · exact hu _ _ (by omega) (by omega)
          · rw [if_neg hj2]
            exact hu _ _ (by omega) (by omega)
/-- the sort: a permutation that rises -/
theorem st_sort (hr : ∀ i j, i < n → j < n → i ≠ j → r i ≠ r j) {s : Shared} {Q : Array Nat → Shared → Prop} (h2 : 2 ≤ n) (hI : I s) (q : ∀ p s', I s' → Pm n r p → Up r p n → Q p s') : (kas_sort n).kasWp cmp Q s := by
  unfold kas_sort
  rw [KasT.kasWp_bind]
  have P0 : Pm n r (List.toArray (List.range n)) := Pm.of hr (Array.Perm.refl _)
  refine st_count hc hr P0 h2 hI fun k p s' hI' hk h1 P hu => ?_
  by_cases hlt : k < n
  · simp only [hlt, if_true]
    have e : max k 1 = k := by omega
    rw [e]
    exact st_bin hc hr (n - k) p k s' h1 (by omega) P hI' hu q
  · simp only [hlt, if_false]
    have e : k = n := by omega
    exact q p s' hI' P (by rw [← e]; exact hu)
end
end L2.LW
set_option linter.all false
set_option maxHeartbeats 4000000
namespace L2.LW
open PySem PySem.Spec PySem.W PyProof.Rows
section
variable {prog : Program} {w : World} {A : Around} {E : Value → Shared → Prop} {s : Shared}
/-- list.sort by questions that are answered by numbers that all differ -/
theorem lsort_any {a : Addr} {vs : List Value} {n : Nat} {P : PySem.Fin → Shared → Prop} {κ : SortKind} (ho : s.heap.get? a = some (seqObj "list" vs.toArray n)) (h64 : vs.length < 64) {r : Nat → Int} (hr : ∀ i j, i < vs.length → j < vs.length → i ≠ j → r i ≠ r j)
    (hk : 2 ≤ vs.length → ∀ h' tk, (∀ b o, b ≠ a → s.heap.get? b = some o → h'.get? b = some o) → wpAny (model prog w) A (keyKind' vs.toArray) (fun κ' s' => κ' = κ ∧ ∃ tk', s' = { s with heap := h', toks := tk' }) (fun _ _ => False) { s with heap := h', toks := tk })
    (hc : ∀ i j h' tk (C : Bool → Shared → Prop), i < vs.length → j < vs.length → (∀ b o, b ≠ a → s.heap.get? b = some o → h'.get? b = some o) → (∀ tk', C (decide (r i < r j)) { s with heap := h', toks := tk' }) →
      wpAny (model prog w) A (keyLt' κ (vs.getD i Value.none) (vs.getD j Value.none)) C (fun _ _ => False) { s with heap := h', toks := tk })
    (h : ∀ p tk, Pm vs.length r p → Up r p vs.length → P (.done (.ret .none)) { s with heap := sortedHeap s.heap a vs (p.toList.map fun i => vs.getD i Value.none).toArray, toks := tk }) :
    wpAny (model prog w) A (Builtin.«list.sort» ⟨[.ref a], []⟩) P E s := by
  rw [list_sort_plain]
  have ha : a < s.heap.objs.size := Heap.lt_size ho
  refine wpAny_bind (listItems_at ho rfl ?_)
  refine wpAny_bind (listUpdate_at ho rfl ?_ (by rw [List.size_toArray, sizeLine_eq]; omega) (Nat.zero_le _))
  obtain ⟨e1, ho1⟩ : ∃ e1, (s.heap.update a (Obj.mapSeq fun _ => #[])).get? a = some (seqObj "list" #[] e1) := ⟨_, get?_update_seq ho (fun _ => #[])⟩
  refine wpAny_bind (seqEpoch_at ho1 rfl ?_)
  refine wpAny_bind (wpAny_newTuple ?_ (by show vs.length ≤ _; rw [sizeLine_eq]; omega))
  refine wpAny_bind (wpAny_newList ?_ (Nat.zero_le _))
  refine wpAny_holding ?_
  have ho6 : (((s.heap.update a (Obj.mapSeq fun _ => #[])).push (seqObj "tuple" vs.toArray 0)).push (seqObj "list" #[] 0)).get? a = some (seqObj "list" #[] e1) := by
    rw [Heap.get?_push_ne _ _ _ (by rw [size_push', Heap.size_update]; exact Nat.ne_of_lt (Nat.lt_succ_of_lt ha)), Heap.get?_push_ne _ _ _ (by rw [Heap.size_update]; exact Nat.ne_of_lt ha)]
    exact ho1
  have keep : ∀ b o, b ≠ a → s.heap.get? b = some o → (((s.heap.update a (Obj.mapSeq fun _ => #[])).push (seqObj "tuple" vs.toArray 0)).push (seqObj "list" #[] 0)).get? b = some o := fun b o hb e =>
    Heap.get?_push_of_some _ (Heap.get?_push_of_some _ (by rw [Heap.get?_update_ne _ _ _ _ hb]; exact e))
  show wpAny (model prog w) A _ P E { s with heap := ((s.heap.update a (Obj.mapSeq fun _ => #[])).push (seqObj "tuple" vs.toArray 0)).push (seqObj "list" #[] 0) }
  dsimp only
  have hsz : vs.toArray.size = vs.length := by simp
  have hid : Pm vs.length r (List.range vs.length).toArray := Pm.of hr (Array.Perm.refl _)
  by_cases h2 : vs.toArray.size < 2
  · rw [if_pos h2, if_pos h2]
    refine wpAny_bind (wpAny_pure ?_)
    rw [StateT.run_pure]
    refine wpAny_bind (wpAny_pure ?_)
    dsimp only
    refine wpAny_bind (seqEpoch_at ho6 rfl ?_)
    refine wpAny_bind (listUpdate_at ho6 rfl ?_ (Nat.zero_le _) (by rw [Array.size_map]; show (pairsOf vs).size ≤ _; rw [pairsOf_size, sizeLine_eq]; omega))
    simp only [bne_self_eq_false, Bool.false_eq_true, if_false]
    have hh := h (List.range vs.length).toArray s.toks hid (Up.one (by omega))
    have e : ((List.range vs.length).toArray.toList.map fun i => vs.getD i Value.none).toArray = (arrOf (SortSt.mk' general' (vs.toArray.zip vs.toArray) #[] 7 none)).map (·.2) := by
      show _ = (vs.toArray.zip vs.toArray).map (·.2)
      apply Array.toList_inj.mp
      simp
      apply List.ext_getElem
      · simp
      · intro i h1 h2; simp at h1; simp [h1]
    rw [e] at hh
    exact wpAny_pure hh
  · rw [if_neg h2, if_neg h2]
    rw [hsz] at h2
    have h2' : 2 ≤ vs.length := by omega
    refine wpAny_bind (wpAny_mono (hk h2' _ s.toks keep) (fun κ' s0 ⟨hκ, tk0, hs0⟩ => ?_) fun _ _ x => x.elim)
    subst hκ hs0
    refine wpAny_bind (wpAny_mono (kat_run (ks := vs) (Q := fun st' s' => ∃ (p : Array Nat) (tk : Nat), Pm vs.length r p ∧ Up r p vs.length ∧ arrOf st' = p.map (kas_item (vs.toArray.zip vs.toArray)) ∧ failedOf st' = Option.none ∧
        s' = { s with heap := ((s.heap.update a (Obj.mapSeq fun _ => #[])).push (seqObj "tuple" vs.toArray 0)).push (seqObj "list" #[] 0), toks := tk })
      (G := fun p s' => ∃ tk, Pm vs.length r p ∧ Up r p vs.length ∧ s' = { s with heap := ((s.heap.update a (Obj.mapSeq fun _ => #[])).push (seqObj "tuple" vs.toArray 0)).push (seqObj "list" #[] 0), toks := tk })
      rfl h2' h64 (fun p st' s' a1 a2 a3 ⟨tk, a4, a5, a6⟩ => ⟨p, tk, a4, a5, a2, a3, a6⟩) ?_) ?_ fun _ _ e => e)
    · exact st_sort (I := fun s' => ∃ tk, s' = { s with heap := ((s.heap.update a (Obj.mapSeq fun _ => #[])).push (seqObj "tuple" vs.toArray 0)).push (seqObj "list" #[] 0), toks := tk })
        (fun i j C s' hi hj ⟨tk, hs'⟩ q => by
          subst hs'
          exact hc i j _ tk C hi hj keep fun tk' => q _ ⟨tk', rfl⟩) hr h2' ⟨tk0, rfl⟩ fun p s' ⟨tk, hs'⟩ hp hu => ⟨tk, hp, hu, hs'⟩
    · rintro ⟨⟨⟩, st'⟩ s' ⟨p, tk, hp, hu, har, hf, rfl⟩
      dsimp only
      have hout := kat_snds (ks := vs) (vs := vs) rfl har
      rw [hout]
      refine wpAny_bind (seqEpoch_at ho6 rfl ?_)
      refine wpAny_bind (listUpdate_at ho6 rfl ?_ (Nat.zero_le _) (by rw [List.size_toArray, List.length_map, Array.length_toList, hp.size, sizeLine_eq]; omega))
      rw [hf]
      simp only [bne_self_eq_false, Bool.false_eq_true, if_false]
      exact wpAny_pure (h p tk hp hu)
theorem sorted_any {l : Addr} {vs : List Value} {Q : Value → Shared → Prop} {κ : SortKind} (hl : s.heap.IsList l vs.toArray) (h64 : vs.length < 64) {r : Nat → Int} (hr : ∀ i j, i < vs.length → j < vs.length → i ≠ j → r i ≠ r j)
    (hk : 2 ≤ vs.length → ∀ h' tk, (∀ b o, s.heap.get? b = some o → h'.get? b = some o) → wpAny (model prog w) A.in1.in1 (keyKind' vs.toArray) (fun κ' s' => κ' = κ ∧ ∃ tk', s' = { s with heap := h', toks := tk' }) (fun _ _ => False) { s with heap := h', toks := tk })
    (hc : ∀ i j h' tk (C : Bool → Shared → Prop), i < vs.length → j < vs.length → (∀ b o, s.heap.get? b = some o → h'.get? b = some o) → (∀ tk', C (decide (r i < r j)) { s with heap := h', toks := tk' }) →
      wpAny (model prog w) A.in1.in1 (keyLt' κ (vs.getD i Value.none) (vs.getD j Value.none)) C (fun _ _ => False) { s with heap := h', toks := tk })
    (h : ∀ p tk, Pm vs.length r p → Up r p vs.length → Q (.ref (s.heap.objs.size + 1)) { s with heap := sortedAll s.heap vs (p.toList.map fun i => vs.getD i Value.none).toArray, toks := tk }) :
    wpAny (model prog w) A (call (.builtin "sorted") [.ref l]) Q E s := by
  refine Calls.call_function_entry kind_sorted plain_sorted entry_sorted (args_sorted1 _) ?_
  unfold Builtin.«sorted»
  refine wpAny_bind (m := checkCount "sorted" 1 1 _) (wpAny_pure ?_)
  refine wpAny_bind (collect_list hl ?_ (by rw [sizeLine_eq]; omega))
  refine wpAny_bind (wpAny_newList ?_ (by rw [sizeLine_eq]; omega))
  have hsz : ((s.heap.push (seqObj "list" #[] 0)).update s.heap.objs.size (Obj.mapSeq (· ++ vs.toArray))).objs.size = s.heap.objs.size + 1 := by
    rw [Heap.size_update, size_push']
  have hoL : (((s.heap.push (seqObj "list" #[] 0)).update s.heap.objs.size (Obj.mapSeq (· ++ vs.toArray))).push (seqObj "list" vs.toArray 0)).get? (s.heap.objs.size + 1) = some (seqObj "list" vs.toArray 0) := by
    rw [← hsz]; exact Heap.get?_push_size _ rfl
  have keep : ∀ b o, s.heap.get? b = some o → (((s.heap.push (seqObj "list" #[] 0)).update s.heap.objs.size (Obj.mapSeq (· ++ vs.toArray))).push (seqObj "list" vs.toArray 0)).get? b = some o := fun b o q => by
    have hlt : b < s.heap.objs.size := Heap.lt_size q
    rw [Heap.get?_push_ne _ _ _ (by rw [hsz]; exact Nat.ne_of_lt (Nat.lt_succ_of_lt hlt)), Heap.get?_update_ne _ _ _ _ (Nat.ne_of_lt hlt), Heap.get?_push_ne _ _ _ (Nat.ne_of_lt hlt)]
    exact q
  have nea : ∀ b o, s.heap.get? b = some o → b ≠ s.heap.objs.size + 1 := fun b o e => Nat.ne_of_lt (Nat.lt_succ_of_lt (Heap.lt_size e))
  show wpAny _ _ _ _ _ { s with heap := ((s.heap.push (seqObj "list" #[] 0)).update s.heap.objs.size (Obj.mapSeq (· ++ vs.toArray))).push (seqObj "list" vs.toArray 0) }
  rw [hsz]
  refine wpAny_bind (wpAny_holding (wpAny_call_entry slot_list_sort ⟨_, hoL, rfl⟩ entry_list_sort (lsort_any (κ := κ) (r := r) hoL h64 hr (fun h2 h' tk hk' => ?_) (fun i j h' tk C hi hj hk' q => ?_) fun p tk hp hu => ⟨_, rfl, ?_⟩) (args_list_sort _)))
  · exact hk h2 h' tk fun b o e => hk' b o (nea b o e) (keep b o e)
  · exact hc i j h' tk C hi hj (fun b o e => hk' b o (nea b o e) (keep b o e)) q
  · exact wpAny_pure ⟨_, rfl, h p tk hp hu⟩
end
/-! ### tuples of ints in their order -/
theorem lex_irrefl : ∀ x : List Int, LW.lexLt x x = false
  | [] => rfl
  | a :: x => by rw [LW.lexLt, if_pos rfl]; exact lex_irrefl x
theorem lex_trans : ∀ {x y z : List Int}, LW.lexLt x y = true → LW.lexLt y z = true → LW.lexLt x z = true
  | x, [], _, h, _ => by cases x <;> simp [LW.lexLt] at h
  | _, _ :: _, [], _, h => by cases h
  | [], _ :: _, _ :: _, _, _ => rfl
  | a :: x, b :: y, c :: z, h1, h2 => by
    rw [LW.lexLt] at h1 h2 ⊢
    by_cases e1 : a = b
    · by_cases e2 : b = c
      · rw [if_pos e1] at h1
        rw [if_pos e2] at h2
        rw [if_pos (e1.trans e2)]
        exact lex_trans h1 h2
      · rw [if_neg e2, decide_eq_true_iff] at h2
        rw [if_neg (by omega), decide_eq_true_iff]
        omega
    · rw [if_neg e1, decide_eq_true_iff] at h1
      by_cases e2 : b = c
      · rw [if_neg (by omega), decide_eq_true_iff]; omega
      · rw [if_neg e2, decide_eq_true_iff] at h2
        rw [if_neg (by omega), decide_eq_true_iff]; omega
theorem lex_total : ∀ {x y : List Int}, x ≠ y → LW.lexLt x y = true ∨ LW.lexLt y x = true
  | [], [], h => absurd rfl h
  | [], _ :: _, _ => .inl rfl
  | _ :: _, [], _ => .inr rfl
  | a :: x, b :: y, h => by
    rw [LW.lexLt, LW.lexLt]
    by_cases e : a = b
    · rw [if_pos e, if_pos e.symm]
      exact lex_total fun z => h (by rw [e, z])
    · rw [if_neg e, if_neg (fun z => e z.symm), decide_eq_true_iff, decide_eq_true_iff]
      omega
abbrev lexP (x y : List Int) : Prop := LW.lexLt x y = true
theorem insT_perm (x : List Int) : ∀ l, (insT x l).Perm (x :: l)
  | [] => .refl _
  | y :: r => by
    unfold insT
    split
    · exact .refl _
    · exact ((insT_perm x r).cons y).trans (.swap x y r)
theorem sortT_perm : ∀ l, (sortT l).Perm l
  | [] => .refl _
  | x :: r => (insT_perm x _).trans ((sortT_perm r).cons x)
theorem insT_up {x : List Int} : ∀ {l : List (List Int)}, l.Pairwise lexP → (∀ y ∈ l, x ≠ y) → (insT x l).Pairwise lexP
  | [], _, _ => by simp [insT]
  | y :: r, h, hn => by
    rw [List.pairwise_cons] at h
    unfold insT
    split
    · rename_i hx
      rw [List.pairwise_cons, List.pairwise_cons]
      refine ⟨fun z hz => ?_, h⟩
      rcases List.mem_cons.mp hz with rfl | hz
      · exact hx
      · exact lex_trans hx (h.1 z hz)
    · rename_i hx
      have hyx : lexP y x := (lex_total (hn y List.mem_cons_self)).resolve_left hx
      rw [List.pairwise_cons]
      refine ⟨fun z hz => ?_, insT_up h.2 fun z hz => hn z (List.mem_cons_of_mem _ hz)⟩
      rcases List.mem_cons.mp ((insT_perm x r).mem_iff.mp hz) with rfl | hz
      · exact hyx
      · exact h.1 z hz
theorem sortT_up : ∀ {l : List (List Int)}, l.Nodup → (sortT l).Pairwise lexP
  | [], _ => List.Pairwise.nil
  | x :: r, h => by
    rw [List.nodup_cons] at h
    exact insT_up (sortT_up h.2) fun y hy e => h.1 ((sortT_perm r).mem_iff.mp (e ▸ hy))
theorem up_uniq : ∀ {l m : List (List Int)}, l.Perm m → l.Pairwise lexP → m.Pairwise lexP → l = m
  | [], m, h, _, _ => (List.Perm.nil_eq h)
  | x :: l, [], h, _, _ => by have := h.length_eq; simp at this
  | x :: l, y :: m, h, h1, h2 => by
    rw [List.pairwise_cons] at h1 h2
    have e : x = y := by
      rcases List.mem_cons.mp (h.mem_iff.mp List.mem_cons_self) with e | hx
      · exact e
      · rcases List.mem_cons.mp (h.mem_iff.mpr List.mem_cons_self) with e | hy
        · exact e.symm
        · have q1 := h2.1 x hx
          have q2 := h1.1 y hy
          have := lex_trans q1 q2
          rw [lex_irrefl] at this; cases this
    subst e
    rw [up_uniq (List.Perm.cons_inv h) h1.2 h2.2]
/-- how many are less -/
def rkT (ks : List (List Int)) (x : List Int) : Int := ((ks.filter fun y => LW.lexLt y x).length : Nat)
theorem rkT_lt {ks : List (List Int)} {x y : List Int} (hx : x ∈ ks) (h : lexP x y) : rkT ks x < rkT ks y := by
  unfold rkT
  have key : ∀ l : List (List Int), (l.filter fun z => LW.lexLt z x).length ≤ (l.filter fun z => LW.lexLt z y).length ∧ (x ∈ l → (l.filter fun z => LW.lexLt z x).length < (l.filter fun z => LW.lexLt z y).length) := by
    intro l
    induction l with
    | nil => exact ⟨Nat.le_refl _, fun z => by cases z⟩
    | cons z l ih =>
      rw [List.filter_cons, List.filter_cons]
      by_cases h1 : LW.lexLt z x = true
      · have h2 := lex_trans h1 h
        rw [if_pos h1, if_pos h2]
        simp only [List.length_cons]
        refine ⟨by omega, fun hz => ?_⟩
        rcases List.mem_cons.mp hz with rfl | hz
        · rw [lex_irrefl] at h1; cases h1
        · have := ih.2 hz; omega
      · rw [if_neg h1]
        by_cases h2 : LW.lexLt z y = true
        · rw [if_pos h2]
          simp only [List.length_cons]
          exact ⟨by omega, fun _ => by omega⟩
        · rw [if_neg h2]
          refine ⟨ih.1, fun hz => ?_⟩
          rcases List.mem_cons.mp hz with rfl | hz
          · exact absurd h h2
          · exact ih.2 hz
  have := (key ks).2 hx
  omega
theorem rkT_dec {ks : List (List Int)} {x y : List Int} (hx : x ∈ ks) (hy : y ∈ ks) (hne : x ≠ y) : decide (rkT ks x < rkT ks y) = LW.lexLt x y := by
  rcases lex_total hne with h | h
  · have := rkT_lt hx h
    rw [h, decide_eq_true_iff]; exact this
  · have h1 := rkT_lt hy h
    have h2 : LW.lexLt x y = false := by
      cases e : LW.lexLt x y with
      | false => rfl
      | true => have := lex_trans e h; rw [lex_irrefl] at this; cases this
    rw [h2, decide_eq_false_iff_not]; omega
section
variable {X : Cx} {pins : List (Addr × Obj)} {σ : St} {H : Hp} {s : Shared} {W : Addr → Prop}
/-- values that are tuples of ints -/
def TupAt (h : Heap) (v : Value) (k : List Int) : Prop := ∃ a o its n, v = .ref a ∧ h.get? a = some o ∧ o.cls = .type "tuple" ∧ o.data = .seq its n ∧ IntsAre its.toList k
theorem tups_at (I : Inv X pins σ H s) : ∀ {ds : List D} {xs : List V} {us : List Value} {ks : List (List Int)}, Reps X.K W H ds xs → Vals xs us → tups? ds = some ks → Paired (TupAt s.heap) us ks
  | _, _, _, ks, .nil, r, e => by cases r; simp [tups?] at e; subst e; exact .nil
  | _, _, _, ks, .cons h t, r, e => by
    cases r with
    | cons r1 r2 =>
      cases h with
      | tup hH rp =>
        simp only [tups?, Option.bind_eq_some_iff, Option.map_eq_some_iff] at e
        obtain ⟨k, e1, ks', e2, rfl⟩ := e
        refine .cons ?_ (tups_at I t r2 e2)
        cases r1
        obtain ⟨its, rv, ⟨o, ho, hc, n, hd⟩, _⟩ := I.tuple (.of hH)
        rw [rp.ofInts e1] at rv
        exact ⟨_, o, its.toArray, n, rfl, ho, hc, hd, by simpa using intsAre_of rv⟩
      | _ => simp [tups?] at e
theorem paired_at {α β : Type} {F : α → β → Prop} : ∀ {xs : List α} {ys : List β} {i : Nat}, Paired F xs ys → i < xs.length → ∃ x y, xs[i]? = some x ∧ ys[i]? = some y ∧ F x y
  | _, _, _, .nil, h => by simp at h
  | _, _, 0, .cons h _, _ => ⟨_, _, rfl, rfl, h⟩
  | _, _, i + 1, .cons _ t, h => by
    obtain ⟨x, y, h1, h2, h3⟩ := paired_at (i := i) t (by simpa using h)
    exact ⟨x, y, by simpa using h1, by simpa using h2, h3⟩
theorem katTups_of {h : Heap} : ∀ {us : List Value} {ks : List (List Int)}, Paired (TupAt h) us ks → (∀ k ∈ ks, k ≠ []) → ∃ fs, KatTups h us fs ∧ fs.length = us.length ∧ ∀ v ∈ fs, ∃ i t, v = Value.int i t
  | _, _, .nil, _ => ⟨[], .nil, rfl, fun _ z => by cases z⟩
  | _, _, .cons hx t, hn => by
    obtain ⟨fs, h1, h2, h3⟩ := katTups_of t fun k hk => hn k (List.mem_cons_of_mem _ hk)
    obtain ⟨a, o, its, n, rfl, ho, hc, hd, hi⟩ := hx
    have hne := hn _ List.mem_cons_self
    cases hi' : its.toList with
    | nil => rw [hi'] at hi; cases hi; exact absurd rfl hne
    | cons v r =>
      rw [hi'] at hi
      cases hi with
      | cons i t' hr =>
        refine ⟨.int i t' :: fs, .cons ho hc hd (by rw [← Array.getElem?_toList, hi']; rfl) h1, by simp [h2], fun v hv => ?_⟩
        rcases List.mem_cons.mp hv with rfl | hv
        · exact ⟨_, _, rfl⟩
        · exact h3 v hv
theorem katLex_ints {prog : Program} {w : World} {A : Around} {Q : Bool → Shared → Prop} {s : Shared} {fin : Bool} : ∀ {us vs : List Value} {x y : List Int} (i : Nat), IntsAre us x → IntsAre vs y → (fin = decide (us.length < vs.length)) → Q (LW.lexLt x y) s → KatLex prog w A true fin Q (us.zip vs) i s
  | _, _, _, _, i, .nil, hv, hf, q => by
    cases hv with
    | nil => subst hf; exact kat_nil q
    | cons j t hv => subst hf; exact kat_nil q
  | _, _, _, _, i, .cons a t hu, hv, hf, q => by
    cases hv with
    | nil => subst hf; exact kat_nil q
    | cons b t' hv =>
      refine kat_cons (wpAny_eqBool_int ?_)
      by_cases e : a = b
      · subst e
        have : (a == a) = true := by simp
        rw [this]
        refine kat_yes (katLex_ints (i + 1) hu hv (by rw [hf]; simp) ?_)
        rw [LW.lexLt, if_pos rfl] at q
        exact q
      · have : (a == b) = false := by simpa using e
        rw [this]
        refine kat_no ?_
        rw [LW.lexLt, if_neg e] at q
        cases i with
        | zero => exact oneLt_int q
        | succ i =>
          have e2 : (true && (i + 1 == 0)) = false := rfl
          rw [e2]
          exact kat_one _ _ (lt_int q)
theorem getD_at {α : Type} {l : List α} {i : Nat} {x d : α} (h : l[i]? = some x) : l.getD i d = x := by
  rw [List.getD_eq_getElem?_getD, h]; rfl
theorem vals_perm {xs : List V} {us : List Value} (r : Vals xs us) (p : List Nat) (hp : ∀ i ∈ p, i < us.length) : Vals (p.map fun i => xs.getD i .non) (p.map fun i => us.getD i Value.none) := by
  induction p with
  | nil => exact .nil
  | cons i p ih =>
    refine .cons ?_ (ih fun j hj => hp j (List.mem_cons_of_mem _ hj))
    have hi := hp i List.mem_cons_self
    have hl := r.length
    obtain ⟨u, h1, h2⟩ := r.get (i := i) (x := xs[i]'(by omega)) (by simp)
    show RelV (xs.getD i .non) (us.getD i Value.none)
    rw [getD_at h1, getD_at (x := xs[i]'(by omega)) (by simp)]
    exact h2
theorem reps_perm {ds : List D} {xs : List V} (r : Reps X.K W H ds xs) (p : List Nat) (hp : ∀ i ∈ p, i < ds.length) : Reps X.K W H (p.map fun i => ds.getD i .non) (p.map fun i => xs.getD i .non) := by
  induction p with
  | nil => exact .nil
  | cons i p ih =>
    refine .cons ?_ (ih fun j hj => hp j (List.mem_cons_of_mem _ hj))
    have hi := hp i List.mem_cons_self
    obtain ⟨x, h1, h2⟩ := r.get (i := i) (d := ds[i]) (by simp)
    show Rep X.K W H (ds.getD i .non) (xs.getD i .non)
    rw [getD_at h1, getD_at (x := ds[i]) (by simp)]
    exact h2
theorem tups_is : ∀ {ds : List D} {ks : List (List Int)}, tups? ds = some ks → ds = ks.map kT
  | [], ks, e => by simp [tups?] at e; subst e; rfl
  | d :: r, ks, e => by
    cases d with
    | tup l =>
      simp only [tups?, Option.bind_eq_some_iff, Option.map_eq_some_iff] at e
      obtain ⟨k, e1, ks', e2, rfl⟩ := e
      rw [tups_is e2, ints_is e1]; rfl
    | _ => simp [tups?] at e
theorem vr_sorted : CallR X (.builtin "sorted") (VR X.K (primD .sorted)) := by
  rintro pins s σ H xs us Q I rv ⟨W, ds, r, wf, hs, hf, q⟩
  replace hf : pSorted ds = some r := hf
  unfold pSorted at hf
  split at hf
  case h_2 => cases hf
  rename_i l
  unfold sortedL at hf
  split at hf
  · rename_i ns e1
    split at hf
    · rename_i h64
      cases hf
      exact vr_sortedI (ds := [.lst l]) I rv hs e1 h64 q
    · cases hf
  · rw [Option.bind_eq_some_iff] at hf
    obtain ⟨ks, e1, hf⟩ := hf
    split at hf
    case isFalse => cases hf
    rename_i hcond
    cases hf
    obtain ⟨h64, hnd, hne⟩ := hcond
    have hne' : ∀ k ∈ ks, k ≠ [] := fun k hk e => by
      have := List.all_eq_true.mp hne k hk
      rw [e] at this; cases this
    cases hs with
    | cons h1 t =>
      cases t
      obtain ⟨p, ys, rfl, hp, rp⟩ := h1.lst
      obtain ⟨u, rfl, ru⟩ := vals1 rv
      cases ru
      obtain ⟨its, rv', pl, hz⟩ := I.list hp
      have hT := tups_at I rp rv' e1
      have hlen : its.length = ks.length := Paired.length hT
      have hl2 := rp.length
      have hl3 := rv'.length
      let r : Nat → Int := fun i => rkT ks (ks.getD i [])
      have memk : ∀ i, i < its.length → ks.getD i [] ∈ ks := fun i hi => by
        rw [getD_at (x := ks[i]'(by omega)) (by simp)]; exact List.getElem_mem _
      have injk : ∀ i j, i < its.length → j < its.length → i ≠ j → ks.getD i [] ≠ ks.getD j [] := fun i j hi hj ne e => by
        rw [getD_at (x := ks[i]'(by omega)) (by simp), getD_at (x := ks[j]'(by omega)) (by simp)] at e
        exact ne ((List.getElem_inj hnd).mp e)
      have tup_mono : ∀ {h' : Heap}, (∀ b o, s.heap.get? b = some o → h'.get? b = some o) → ∀ {v : Value} {k : List Int}, TupAt s.heap v k → TupAt h' v k := by
        intro h' hk v k ⟨a, o, i, n, h1, h2, h3⟩
        exact ⟨a, o, i, n, h1, hk _ _ h2, h3⟩
      refine sorted_any (κ := tuples' (Value.type "int" != Value.type "tuple")) (r := r) pl.isList (by omega) (fun i j hi hj ne e => ?_) (fun h2 h' tk hk => ?_) (fun i j h' tk C hi hj hk qC => ?_) fun pm tk hpm hup => ?_
      · rcases lex_total (injk i j hi hj ne) with z | z
        · have := rkT_lt (memk i hi) z
          have e : rkT ks (ks.getD i []) = rkT ks (ks.getD j []) := e
          omega
        · have := rkT_lt (memk j hj) z
          have e : rkT ks (ks.getD i []) = rkT ks (ks.getD j []) := e
          omega
      · obtain ⟨fs, f1, f2, f3⟩ := katTups_of (Paired.imp' (fun v k z => tup_mono hk z) hT) hne'
        exact kat_kind (s := { s with heap := h', toks := tk }) f1 (by omega) (fun v hv => by obtain ⟨i, t, rfl⟩ := f3 v hv; exact Looks.of_pure rfl) (by simp) ⟨rfl, tk, rfl⟩
      · obtain ⟨x1, k1, a1, a2, a3⟩ := paired_at hT hi
        obtain ⟨x2, k2, b1, b2, b3⟩ := paired_at hT hj
        rw [getD_at a1, getD_at b1]
        obtain ⟨a, o, i1, n, rfl, c1, c2, c3, c4⟩ := tup_mono hk a3
        obtain ⟨b, o', i2, n', rfl, d1, d2, d3, d4⟩ := tup_mono hk b3
        have er : decide (r i < r j) = LW.lexLt k1 k2 := by
          show decide (rkT ks (ks.getD i []) < rkT ks (ks.getD j [])) = _
          by_cases e : i = j
          · subst e
            rw [a2] at b2; cases b2
            rw [lex_irrefl]; simp
          · have := rkT_dec (memk i hi) (memk j hj) (injk i j hi hj e)
            rw [getD_at a2, getD_at b2] at this
            rw [getD_at a2, getD_at b2]
            exact this
        rw [er] at qC
        refine kat_lt (s := { s with heap := h', toks := tk }) c1 c3 d1 d3 ?_
        exact katLex_ints 0 c4 d4 (by simp) (qC tk)
      · obtain ⟨e, he⟩ := sortedAll_at s.heap its (pm.toList.map fun i => its.getD i Value.none).toArray
        have hlt : ∀ i ∈ pm.toList, i < its.length := fun i hi => by
          have := (Array.perm_iff_toList_perm.mp hpm.perm).mem_iff.mp hi
          simpa using this
        have fr : H (s.heap.objs.size + 1) = Option.none := I.hok.fresh (Nat.le_succ _)
        have hperm : (pm.toList.map fun i => ks.getD i []).Perm ks := by
          have h1 := (Array.perm_iff_toList_perm.mp hpm.perm).map fun i => ks.getD i []
          refine h1.trans (List.Perm.of_eq ?_)
          apply List.ext_getElem
          · simp [hlen]
          · intro i h1 h2; simp at h1; simp [h1, h2]
        have hupk : (pm.toList.map fun i => ks.getD i []).Pairwise lexP := by
          rw [List.pairwise_iff_getElem]
          intro i j hi hj hij
          rw [List.length_map, Array.length_toList, hpm.size] at hi hj
          have h1 := hup i j hij (by omega)
          have li := hpm.lt i hi
          have lj := hpm.lt j hj
          simp only [List.getElem_map, Array.getElem_toList]
          have gi : pm.getD i 0 = pm[i]'(by rw [hpm.size]; exact hi) := by simp [Array.getD, hpm.size, hi]
          have gj : pm.getD j 0 = pm[j]'(by rw [hpm.size]; exact hj) := by simp [Array.getD, hpm.size, hj]
          unfold kk at h1
          rw [gi] at h1 li
          rw [gj] at h1 lj
          have hne : pm[i]'(by rw [hpm.size]; exact hi) ≠ pm[j]'(by rw [hpm.size]; exact hj) := fun z => by rw [z] at h1; omega
          have := rkT_dec (memk _ li) (memk _ lj) (injk _ _ li lj hne)
          show LW.lexLt _ _ = true
          rw [← this, decide_eq_true_iff]
          exact h1
        have heq : (pm.toList.map fun i => ks.getD i []) = sortT ks := up_uniq (hperm.trans (sortT_perm ks).symm) hupk (sortT_up hnd)
        have hds : (pm.toList.map fun i => l.getD i .non) = (sortT ks).map kT := by
          rw [← heq, List.map_map]
          apply List.map_congr_left
          intro i hi
          have hi' := hlt i hi
          rw [tups_is e1]
          show (ks.map kT).getD i .non = kT (ks.getD i [])
          rw [getD_at (x := kT (ks[i]'(by omega))) (by simp [show i < ks.length by omega]), getD_at (x := ks[i]'(by omega)) (by simp)]
        have hrep := reps_perm rp pm.toList fun i hi => by have := hlt i hi; omega
        rw [hds] at hrep
        have hvals := vals_perm rv' pm.toList fun i hi => hlt i hi
        refine ⟨.ref (s.heap.objs.size + 1), upd H (s.heap.objs.size + 1) (.lst (pm.toList.map fun i => ys.getD i .non)), I.laid (t' := tk) (fun _ _ => sortedAll_old) (Nat.le_succ _) ⟨?_, _, e, hvals, ?_⟩, rfl, q _ _ (same_upd fr _) (res_new fr hrep)⟩
        · rw [List.length_map, Array.length_toList, hpm.size]; exact Nat.le_of_lt (small1000 (by omega))
        · simpa [seqObj] using he
end
end L2.LW
set_option linter.all false
set_option maxHeartbeats 4000000
namespace L2.LW
open PySem PySem.Spec PySem.W PyProof.Rows
/-! ### pairs unpacked by a loop -/
section
variable {X : Cx} {fn : Nat → List D → Option SV} {fa : Nat → List D → Option Ans} {fuel : Nat} {e : Expr} {pos : Pos} {sts : List Stmt} {ss : Ss}
/-! ### the sum -/
end
end L2.LW
set_option linter.all false
set_option maxHeartbeats 4000000
namespace L2.LW
open PySem PySem.Spec PySem.W PySem.Calls PyProof.Rows
/-! ### the keys of a dict, whatever they are -/
/-- the table of a dict, as it lies -/
def RawD (h : Heap) (d : Addr) (tb : Array DictEntry) (ep : Nat) : Prop := ∃ o, h.get? d = some o ∧ o.ExactDict ∧ o.data = .dict tb ep
section
variable {prog : Program} {w : World} {A : Around} {E : Value → Shared → Prop} {s : Shared} {it d : Addr} {k ep : Nat} {tb : Array DictEntry} {Q : Option Value → Shared → Prop}
/-- one more key -/
theorem raw_item (hi : s.heap.IsKeyIter it d k tb.size ep) (hr : RawD s.heap d tb ep) (lt : k < tb.size)
    (q : ∀ h2, h2.IsKeyIter it d (k + 1) tb.size ep → Heap.SameBut it s.heap h2 → Q (some tb[k].key) { s with heap := h2 }) : wpAny (model prog w) A (pyNext (.ref it)) Q E s := by
  obtain ⟨oi, ei, ci, di⟩ := id hi
  obtain ⟨ot, et, ct, dt⟩ := id hr
  unfold pyNext
  refine wpAny_bind (wpAny_attempt (wpAny_callSpecial?_slot (name := Str.ofString "__next__") hi.typeIs PySem.F.slot_dict_keyiterator_next (wpAny_call_entry PySem.F.slot_dict_keyiterator_next hi.typeIs PySem.F.entry_dict_keyiterator_next ?_ (PySem.F.args_dict_keyiterator_next_1 _))))
  refine wpAny_bind (wpAny_pure (wpAny_bind (wpAny_bind ?_)))
  first | refine wpAny_bind (wpAny_typeNameOfWhole_keyiter hi.typeIs (wpAny_pure (wpAny_bind (wpAny_fieldsOf ei di ?_)))) | refine wpAny_bind (wpAny_typeNameOf_keyiter hi.typeIs (wpAny_pure (wpAny_bind (wpAny_fieldsOf ei di ?_))))
  have own : Builtin.Dict_items.ownsTuple "dict_keyiterator" = false := rfl
  simp only [own, Bool.false_eq_true, if_false]
  show wpAny _ _ (if (Value.ref d == Value.none) = true then _ else _) _ _ s
  rw [if_neg (by intro z; cases z)]
  refine wpAny_bind (wpAny_pure (wpAny_bind (wpAny_dictEntries et dt ?_)))
  rw [if_neg (by simp)]
  refine wpAny_bind (wpAny_pure (wpAny_bind (wpAny_dictEpoch et dt ?_)))
  rw [if_neg (by simp)]
  have nn : ¬ ((k : Int) < 0) := by omega
  refine wpAny_pure ?_
  simp only [nn, if_false, Int.toNat_natCast, Array.getElem?_eq_getElem lt]
  refine wpAny_bind ?_
  first | refine wpAny_bind (wpAny_typeNameOfWhole_keyiter hi.typeIs (wpAny_pure (wpAny_bind (wpAny_isOneOf_keyiter hi.typeIs ?_)))) | refine wpAny_bind (wpAny_typeNameOf_keyiter hi.typeIs (wpAny_pure (wpAny_bind (wpAny_isOneOf_keyiter hi.typeIs ?_))))
  show wpAny _ _ (setField (.ref it) 1 (rawInt ((k : Int) + 1)) >>= _) _ _ s
  have hi2 : (s.heap.update it (Obj.mapFields fun fs => fs.setIfInBounds 1 (rawInt ((k : Int) + 1)))).IsKeyIter it d (k + 1) tb.size ep :=
    ⟨_, Heap.get?_update_self _ ei (Obj.isFreed_of_fields (Obj.data_mapFields di _)), (Obj.cls_mapFields ..).trans ci, by rw [Obj.data_mapFields di]; simp [rawInt]⟩
  refine wpAny_bind (wpAny_setField ei di (by simp) (wpAny_bind (wpAny_holding (wpAny_bind (wpAny_isOneOf_keyiter (s := { s with heap := s.heap.update it (Obj.mapFields fun fs => fs.setIfInBounds 1 (rawInt ((k : Int) + 1))) }) hi2.typeIs ?_)))))
  show wpAny _ _ (pure tb[k].key) _ _ _
  exact wpAny_pure (wpAny_pure ⟨_, rfl, wpAny_pure (q _ hi2 (Heap.SameBut.update ..))⟩)
/-- none is left -/
theorem raw_end (hh : A.handled = none) (hi : s.heap.IsKeyIter it d tb.size tb.size ep) (hr : RawD s.heap d tb ep) (q : ∀ h2, Heap.ExtBut it s.heap h2 → Q none { s with heap := h2 }) : wpAny (model prog w) A (pyNext (.ref it)) Q E s := by
  obtain ⟨oi, ei, ci, di⟩ := id hi
  obtain ⟨ot, et, ct, dt⟩ := id hr
  unfold pyNext
  refine wpAny_bind (wpAny_attempt (wpAny_callSpecial?_slot (name := Str.ofString "__next__") hi.typeIs PySem.F.slot_dict_keyiterator_next (wpAny_call_entry PySem.F.slot_dict_keyiterator_next hi.typeIs PySem.F.entry_dict_keyiterator_next ?_ (PySem.F.args_dict_keyiterator_next_1 _))))
  refine wpAny_bind (wpAny_pure (wpAny_bind (wpAny_bind ?_)))
  first | refine wpAny_bind (wpAny_typeNameOfWhole_keyiter hi.typeIs (wpAny_pure (wpAny_bind (wpAny_fieldsOf ei di ?_)))) | refine wpAny_bind (wpAny_typeNameOf_keyiter hi.typeIs (wpAny_pure (wpAny_bind (wpAny_fieldsOf ei di ?_))))
  have own : Builtin.Dict_items.ownsTuple "dict_keyiterator" = false := rfl
  simp only [own, Bool.false_eq_true, if_false]
  show wpAny _ _ (if (Value.ref d == Value.none) = true then _ else _) _ _ s
  rw [if_neg (by intro z; cases z)]
  refine wpAny_bind (wpAny_pure (wpAny_bind (wpAny_dictEntries et dt ?_)))
  rw [if_neg (by simp)]
  refine wpAny_bind (wpAny_pure (wpAny_bind (wpAny_dictEpoch et dt ?_)))
  rw [if_neg (by simp)]
  have nn : ¬ ((tb.size : Int) < 0) := by omega
  refine wpAny_pure ?_
  simp only [nn, if_false, Int.toNat_natCast, Array.getElem?_eq_none (Nat.le_refl tb.size)]
  refine wpAny_bind ?_
  first | refine wpAny_bind (wpAny_typeNameOfWhole_keyiter hi.typeIs (wpAny_pure ?_)) | refine wpAny_bind (wpAny_typeNameOf_keyiter hi.typeIs (wpAny_pure ?_))
  show wpAny _ _ (setField (.ref it) 0 .none >>= _) _ _ s
  refine wpAny_bind (wpAny_setField ei di (by simp) ?_)
  show wpAny _ _ (newExc (.type "StopIteration") [] >>= _) _ _ _
  simp only [newExc, newTuple]
  refine wpAny_bind (wpAny_bind (wpAny_newObj_type (wpAny_bind (m := firstArgMember _ _) (wpAny_of_eq (a := Value.none) (by first | rfl | (simp only [firstArgMember]; rfl)) (wpAny_newObj_type ?_ (by size_fits)))) (by size_fits)))
  simp only [raiseNew]
  refine wpAny_bind (wpAny_handled ?_)
  rw [show A.in1.handled = none from hh]
  refine wpAny_bind (wpAny_pure (wpAny_throw ?_))
  refine wpAny_bind (wpAny_isInstance (b := true) (T := "StopIteration") ⟨_, Heap.get?_push_size _ rfl, rfl⟩ isSubtype_stop ?_)
  exact wpAny_pure (q _ (((Heap.SameBut.update ..).extBut.push _).push _))
end
theorem RawD.at {h h2 : Heap} {d : Addr} {tb : Array DictEntry} {ep : Nat} (x : RawD h d tb ep) (e : ∀ o, h.get? d = some o → h2.get? d = some o) : RawD h2 d tb ep := let ⟨o, ho, r⟩ := x; ⟨o, e _ ho, r⟩
theorem RawD.lt {h : Heap} {d : Addr} {tb : Array DictEntry} {ep : Nat} (x : RawD h d tb ep) : d < h.objs.size := let ⟨_, ho, _⟩ := x; Heap.lt_size ho
section
variable {prog : Program} {w : World}
theorem raw_walks {A : Around} (hh : A.handled = none) (I d : Addr) (hne : d ≠ I) (tb : Array DictEntry) (ep : Nat) :
    Walks prog w A I [I, d] [I] tb.size (fun i v => ∃ e, tb[i]? = some e ∧ v = e.key) (fun i h => h.IsKeyIter I d i tb.size ep ∧ RawD h d tb ep) where
  sub := fun b hb => by rw [List.mem_singleton] at hb; rw [hb]; exact List.mem_cons_self
  frame := fun _ _ _ st hk => ⟨st.1.at fun o e => hk I List.mem_cons_self o e, st.2.at fun o e => hk d (List.mem_cons_of_mem _ List.mem_cons_self) o e⟩
  item := fun i s Q E lt st q => raw_item st.1 st.2 lt fun h2 hi2 sb =>
    q _ h2 s.toks ⟨tb[i], Array.getElem?_eq_getElem lt, rfl⟩ ⟨hi2, st.2.at fun o e => sb.extBut d o hne e⟩ fun b o hb e => sb.extBut b o (fun z => hb (by rw [z]; exact List.mem_cons_self)) e
  done := fun s Q E st q => raw_end hh st.1 st.2 fun h2 eb => q h2 s.toks fun b o hb e => eb b o (fun z => hb (by rw [z]; exact List.mem_cons_self)) e
  self := fun _ _ _ _ st q => wpAny_pyIter_keyiter st.1 q
theorem raw_iter {A : Around} {E : Value → Shared → Prop} {s : Shared} {v d : Addr} {tb : Array DictEntry} {ep : Nat} {Q : Value → Shared → Prop} (hv : KdlKeysView s.heap v d) (hr : RawD s.heap d tb ep)
    (q : Q (.ref s.heap.objs.size) { s with heap := s.heap.push { cls := .type "dict_keyiterator", data := .fields #[.ref d, .int 0 0, .int tb.size 0, .int ep 0] } }) : wpAny (model prog w) A (pyIter (.ref v)) Q E s := by
  obtain ⟨ov, e1, c1, d1⟩ := id hv
  obtain ⟨ot, et, ct, dt⟩ := id hr
  refine wpAny_pyIter_slot hv.typeIs kdl_slot_keys_iter (wpAny_call_entry kdl_slot_keys_iter hv.typeIs kdl_entry_keys_iter ?_ (kdl_args_keys_iter _))
  unfold Builtin.«dict_keys.__iter__»
  refine wpAny_bind (wpAny_pure (wpAny_bind ?_))
  unfold Builtin.Dict_items.dictOf
  refine wpAny_bind (wpAny_field e1 d1 (x := .ref d) rfl (wpAny_pure (wpAny_bind ?_)))
  unfold Builtin.Dict_items.newIterator
  refine wpAny_bind (wpAny_dictEntries et dt (wpAny_bind (wpAny_dictEpoch et dt ?_)))
  have own : Builtin.Dict_items.ownsTuple "dict_keyiterator" = false := rfl
  simp only [own, Bool.false_eq_true, if_false]
  exact wpAny_newObj_type (wpAny_pure ⟨_, rfl, "dict_keyiterator", _, ⟨_, Heap.get?_push_size _ rfl, rfl⟩, PySem.F.slot_dict_keyiterator_next.lookup, q⟩)
theorem raw_src {r d : Addr} {tb : Array DictEntry} {ep : Nat} : KdlSrc prog w "dict_keys" r d tb.size (fun i v => ∃ e, tb[i]? = some e ∧ v = e.key) (fun h => KdlKeysView h r d ∧ RawD h d tb ep) where
  type := fun _ x => x.1.typeIs
  there := fun _ x => ⟨let ⟨_, ho, _⟩ := x.1; Heap.lt_size ho, x.2.lt⟩
  keep := fun _ _ x hk => ⟨let ⟨o, ho, y⟩ := x.1; ⟨o, hk r (.inl rfl) o ho, y⟩, x.2.at fun o e => hk d (.inr rfl) o e⟩
  notList := rfl
  notTuple := rfl
  hint := fun _ _ _ _ x q => kdl_hint_keys x.1.typeIs q
  iter := fun _ _ hh x => ⟨_, _, fun _ _ q => raw_iter x.1 x.2 q, raw_walks hh _ d (Nat.ne_of_lt x.2.lt) tb ep, ⟨_, Heap.get?_push_size _ rfl, rfl, rfl⟩, x.2.at fun o e => Heap.get?_push_of_some _ e⟩
end
end L2.LW
set_option linter.all false
set_option maxHeartbeats 4000000
namespace L2.LW
open PySem PySem.Spec PySem.W PySem.Calls PyProof.Rows
/-! ### sorted(d.keys()) -/
theorem tup_mono {h h' : Heap} (hk : ∀ b o, h.get? b = some o → h'.get? b = some o) {v : Value} {k : List Int} : TupAt h v k → TupAt h' v k := fun ⟨a, o, i, n, h1, h2, h3⟩ => ⟨a, o, i, n, h1, hk _ _ h2, h3⟩
/-- what a sort of tuples asks and gives -/
theorem sort_facts {prog : Program} {w : World} {A : Around} {s : Shared} {its : List Value} {ks : List (List Int)} (hT : Paired (TupAt s.heap) its ks) (hnd : ks.Nodup) (hne' : ∀ k ∈ ks, k ≠ []) :
    ∃ r : Nat → Int, (∀ i j, i < its.length → j < its.length → i ≠ j → r i ≠ r j) ∧
      (2 ≤ its.length → ∀ h' tk, (∀ b o, s.heap.get? b = some o → h'.get? b = some o) → wpAny (model prog w) A (keyKind' its.toArray) (fun κ' s' => κ' = tuples' (Value.type "int" != Value.type "tuple") ∧ ∃ tk', s' = { s with heap := h', toks := tk' }) (fun _ _ => False) { s with heap := h', toks := tk }) ∧
      (∀ i j h' tk (C : Bool → Shared → Prop), i < its.length → j < its.length → (∀ b o, s.heap.get? b = some o → h'.get? b = some o) → (∀ tk', C (decide (r i < r j)) { s with heap := h', toks := tk' }) →
        wpAny (model prog w) A (keyLt' (tuples' (Value.type "int" != Value.type "tuple")) (its.getD i Value.none) (its.getD j Value.none)) C (fun _ _ => False) { s with heap := h', toks := tk }) ∧
      ∀ pm, Pm its.length r pm → Up r pm its.length → (pm.toList.map fun i => ks.getD i []) = sortT ks ∧ ∀ i ∈ pm.toList, i < its.length := by
  have hlen : its.length = ks.length := Paired.length hT
  let r : Nat → Int := fun i => rkT ks (ks.getD i [])
  have memk : ∀ i, i < its.length → ks.getD i [] ∈ ks := fun i hi => by
    rw [getD_at (x := ks[i]'(by omega)) (by simp)]; exact List.getElem_mem _
  have injk : ∀ i j, i < its.length → j < its.length → i ≠ j → ks.getD i [] ≠ ks.getD j [] := fun i j hi hj ne e => by
    rw [getD_at (x := ks[i]'(by omega)) (by simp), getD_at (x := ks[j]'(by omega)) (by simp)] at e
    exact ne ((List.getElem_inj hnd).mp e)
  refine ⟨r, fun i j hi hj ne e => ?_, fun h2 h' tk hk => ?_, fun i j h' tk C hi hj hk qC => ?_, fun pm hpm hup => ?_⟩
  · rcases lex_total (injk i j hi hj ne) with z | z
    · have := rkT_lt (memk i hi) z
      have e : rkT ks (ks.getD i []) = rkT ks (ks.getD j []) := e
      omega
    · have := rkT_lt (memk j hj) z
      have e : rkT ks (ks.getD i []) = rkT ks (ks.getD j []) := e
      omega
  · obtain ⟨fs, f1, f2, f3⟩ := katTups_of (Paired.imp' (fun v k z => tup_mono hk z) hT) hne'
    exact kat_kind (s := { s with heap := h', toks := tk }) f1 (by omega) (fun v hv => by obtain ⟨i, t, rfl⟩ := f3 v hv; exact Looks.of_pure rfl) (by simp) ⟨rfl, tk, rfl⟩
  · obtain ⟨x1, k1, a1, a2, a3⟩ := paired_at hT hi
    obtain ⟨x2, k2, b1, b2, b3⟩ := paired_at hT hj
    rw [getD_at a1, getD_at b1]
    obtain ⟨a, o, i1, n, rfl, c1, c2, c3, c4⟩ := tup_mono hk a3
    obtain ⟨b, o', i2, n', rfl, d1, d2, d3, d4⟩ := tup_mono hk b3
    have er : decide (r i < r j) = LW.lexLt k1 k2 := by
      show decide (rkT ks (ks.getD i []) < rkT ks (ks.getD j [])) = _
      by_cases e : i = j
      · subst e
        rw [a2] at b2; cases b2
        rw [lex_irrefl]; simp
      · have := rkT_dec (memk i hi) (memk j hj) (injk i j hi hj e)
        rw [getD_at a2, getD_at b2] at this
        rw [getD_at a2, getD_at b2]
        exact this
    rw [er] at qC
    refine kat_lt (s := { s with heap := h', toks := tk }) c1 c3 d1 d3 ?_
    exact katLex_ints 0 c4 d4 (by simp) (qC tk)
  · have hlt : ∀ i ∈ pm.toList, i < its.length := fun i hi => by
      have := (Array.perm_iff_toList_perm.mp hpm.perm).mem_iff.mp hi
      simpa using this
    have hperm : (pm.toList.map fun i => ks.getD i []).Perm ks := by
      have h1 := (Array.perm_iff_toList_perm.mp hpm.perm).map fun i => ks.getD i []
      refine h1.trans (List.Perm.of_eq ?_)
      apply List.ext_getElem
      · simp [hlen]
      · intro i h1 h2; simp at h1; simp [h1, h2]
    have hupk : (pm.toList.map fun i => ks.getD i []).Pairwise lexP := by
      rw [List.pairwise_iff_getElem]
      intro i j hi hj hij
      rw [List.length_map, Array.length_toList, hpm.size] at hi hj
      have h1 := hup i j hij (by omega)
      have li := hpm.lt i hi
      have lj := hpm.lt j hj
      simp only [List.getElem_map, Array.getElem_toList]
      have gi : pm.getD i 0 = pm[i]'(by rw [hpm.size]; exact hi) := by simp [Array.getD, hpm.size, hi]
      have gj : pm.getD j 0 = pm[j]'(by rw [hpm.size]; exact hj) := by simp [Array.getD, hpm.size, hj]
      unfold kk at h1
      rw [gi] at h1 li
      rw [gj] at h1 lj
      have hne : pm[i]'(by rw [hpm.size]; exact hi) ≠ pm[j]'(by rw [hpm.size]; exact hj) := fun z => by rw [z] at h1; omega
      have := rkT_dec (memk _ li) (memk _ lj) (injk _ _ li lj hne)
      show LW.lexLt _ _ = true
      rw [← this, decide_eq_true_iff]
      exact h1
    exact ⟨up_uniq (hperm.trans (sortT_perm ks).symm) hupk (sortT_up hnd), hlt⟩
/-- a view of a dict's keys -/
def kvO (p d : Addr) : HO := .ext fun h => KdlKeysView h p d
section
variable {X : Cx}
theorem mt_keys : MtR X "dict.keys" (fun x xs H Q => ∃ a kvs, x = .ref a ∧ xs = [] ∧ H a = some (.dT kvs) ∧ ∀ p, H p = Option.none → Q (.ref p) (upd H p (kvO p a))) := by
  rintro pins s σ H x xs v us Q I rx rs ⟨a, kvs, rfl, rfl, e, q⟩
  cases rx
  cases rs
  obtain ⟨_, hd, zs, _, dd⟩ := dt_of I.hok e
  refine wpAny_call_entry PySem.F.slot_dict_keys dd.typeIs PySem.F.entry_dict_keys ?_ (PySem.F.args_dict_keys_1 _)
  unfold Builtin.«dict.keys»
  refine wpAny_bind ?_
  unfold Builtin.Dict.noArgs
  refine wpAny_bind (wpAny_notOrdered_dict dd.typeIs ?_)
  show wpAny _ _ (pure a) _ _ s
  refine wpAny_pure ?_
  show wpAny _ _ (Builtin.Dict.showsAll a >>= _) _ _ s
  unfold Builtin.Dict.showsAll
  rw [if_neg (by rw [hd]; exact Bool.false_ne_true)]
  refine wpAny_bind (wpAny_pure (wpAny_bind (wpAny_newObj_type (wpAny_pure ⟨_, rfl, ?_⟩))))
  have hv : KdlKeysView (s.heap.push { cls := .type "dict_keys", data := .fields #[.ref a] }) s.heap.objs.size a := ⟨_, Heap.get?_push_size _ rfl, rfl, rfl⟩
  exact ⟨.ref s.heap.objs.size, _, I.laid (a := s.heap.objs.size) (o := kvO s.heap.objs.size a) (t' := s.toks) (fun _ _ q => Heap.get?_push_of_some _ q) (Nat.le_refl _)
    ⟨hv, ⟨_, Heap.get?_push_size _ rfl⟩, fun h1 h2 ⟨o, z1, z2⟩ k => ⟨o, k o z1, z2⟩⟩, rfl, q _ (I.hok.fresh (Nat.le_refl _))⟩
theorem ints_reps {K : PySem.W.Frag} {W : Addr → Prop} {H : Hp} : ∀ l : List Int, Reps K W H (l.map D.int) (l.map V.int)
  | [] => .nil
  | i :: r => .cons (.int i) (ints_reps r)
theorem keys_reps {K : PySem.W.Frag} {W : Addr → Prop} {H : Hp} : ∀ {ns : List (List Int)} {ys : List V} {zs : List (List Key × Addr × Value)}, ns.length = ys.length →
    Paired (fun (p : List Key × V) (q : List Key × Addr × Value) => p.1 = q.1 ∧ H q.2.1 = some (.tup (p.1.map kV)) ∧ RelV p.2 q.2.2) (dTof ns ys) zs →
    Reps K W H (ns.map kT) (zs.map fun x => V.ref x.2.1) ∧ Vals (zs.map fun x => V.ref x.2.1) (zs.map fun x => Value.ref x.2.1) ∧ zs.length = ns.length
  | [], [], _, _, .nil => ⟨.nil, .nil, rfl⟩
  | n :: ns, y :: ys, _, hl, .cons h t => by
    obtain ⟨h1, h2, h3⟩ := keys_reps (ns := ns) (ys := ys) (by simpa using hl) t
    refine ⟨.cons (.tup (xs := n.map V.int) ?_ (ints_reps n)) h1, .cons rfl h2, by simp [h3]⟩
    have := h.2.1
    rw [keys_kV] at this
    exact this
theorem cr_skeys (hc : X.calm = true) : CallR X (.builtin "sorted") (fun xs H Q => ∃ p a, xs = [.ref p] ∧ H p = some (kvO p a) ∧ VR X.K (primD .skeys) [.ref a] H Q) := by
  rintro pins s σ H xs us Q I rv ⟨p, a, rfl, hp, W, ds, r, wf, hs, hf, q⟩
  obtain ⟨d, rfl, h1⟩ := pr1 hs
  replace hf : pSkeys [d] = some r := hf
  unfold pSkeys at hf
  split at hf
  case h_2 => cases hf
  rename_i ks vs z
  cases z
  obtain ⟨a', ns, ys, e, rfl, hH, hl, _⟩ := h1.dT
  cases e
  obtain ⟨u, rfl, ru⟩ := vals1 rv
  cases ru
  have hks : tups? (ns.map kT) = some ns := by
    clear hf hs h1 hl hH
    induction ns with
    | nil => rfl
    | cons n r ih =>
      have : ∀ l : List Int, ints? (l.map D.int) = some l := fun l => by induction l with
        | nil => rfl
        | cons x l ih => simp [ints?, ih]
      simp [tups?, kT, this, ih]
  unfold sortedK at hf
  rw [hks] at hf
  simp only [Option.bind_some] at hf
  split at hf
  case isFalse => cases hf
  rename_i hcond
  cases hf
  obtain ⟨h64, hnd, hne⟩ := hcond
  have hne' : ∀ k ∈ ns, k ≠ [] := fun k hk e => by
    have := List.all_eq_true.mp hne k hk
    rw [e] at this; cases this
  obtain ⟨_, hd, zs, rel, o, es, ep, g1, g2, g3, g4, g5⟩ := (show ObjOk X.prog X.w H s.heap a (.dT (dTof ns ys)) from I.hok a _ hH)
  have hview : KdlKeysView s.heap p a := (show ObjOk X.prog X.w H s.heap p (kvO p a) from I.hok p _ hp).1
  obtain ⟨rp, rv', zl⟩ := keys_reps (K := X.K) (W := W) hl rel
  have hT := tups_at I rp rv' hks
  obtain ⟨r, f1, f2, f3, f4⟩ := sort_facts (prog := X.prog) (w := X.w) (A := X.A.in1.in1) hT hnd hne'
  have il : (zs.map fun x => Value.ref x.2.1).length = ns.length := by rw [List.length_map, zl]
  have esz : es.size = ns.length := by rw [← Array.length_toList, g4, List.length_map, zl]
  refine Calls.call_function_entry kind_sorted plain_sorted entry_sorted (args_sorted1 _) ?_
  unfold Builtin.«sorted»
  refine wpAny_bind (m := checkCount "sorted" 1 1 _) (wpAny_pure ?_)
  refine wpAny_bind (kdu_collect (A := X.A.in1) raw_src (I.ok.hd hc) ⟨hview, o, g1, g2, g3⟩ (by rw [sizeLine_eq]; omega) fun h2 tk acc hk hacc => ?_)
  have ea : acc.toList = zs.map fun x => Value.ref x.2.1 := by
    apply List.ext_getElem?
    intro j
    have sz : acc.size = es.size := hacc.1
    by_cases hj : j < acc.size
    · have h3 : acc.toList[j]? = some acc[j] := by simp [hj]
      obtain ⟨e, e1, e2⟩ := hacc.2 j acc[j] (by simp [hj])
      rw [h3, e2]
      rw [← Array.getElem?_toList, g4, List.getElem?_map, Option.map_eq_some_iff] at e1
      obtain ⟨x, e3, e4⟩ := e1
      rw [List.getElem?_map, e3, ← e4]; rfl
    · rw [List.getElem?_eq_none (by simpa using hj), List.getElem?_eq_none (by rw [il]; omega)]
  rw [ea]
  refine wpAny_bind (wpAny_newList ?_ (by rw [il, sizeLine_eq]; omega))
  generalize hits : (zs.map fun x => Value.ref x.2.1) = its at *
  have hoL : (h2.push (seqObj "list" its.toArray 0)).get? h2.objs.size = some (seqObj "list" its.toArray 0) := Heap.get?_push_size _ rfl
  have keep : ∀ b q, s.heap.get? b = some q → (h2.push (seqObj "list" its.toArray 0)).get? b = some q := fun b q e => Heap.get?_push_of_some _ (hk b q e)
  have nea : ∀ b q, s.heap.get? b = some q → b ≠ h2.objs.size := fun b q e => Nat.ne_of_lt (Heap.lt_size (hk b q e))
  have I2 := I.kept (t' := tk) hk
  show wpAny _ _ _ _ _ { s with heap := h2.push (seqObj "list" its.toArray 0), toks := tk }
  refine wpAny_bind (wpAny_holding (wpAny_call_entry slot_list_sort ⟨_, hoL, rfl⟩ entry_list_sort (lsort_any (s := { s with heap := h2.push (seqObj "list" its.toArray 0), toks := tk }) (κ := tuples' (Value.type "int" != Value.type "tuple")) (r := r) hoL (by omega) f1 (fun z2 h' tk hk' => ?_) (fun i j h' tk C hi hj hk' q => ?_) fun pm tk hp hu => ⟨_, rfl, ?_⟩) (args_list_sort _)))
  · exact f2 z2 h' tk fun b o e => hk' b o (nea b o e) (keep b o e)
  · exact f3 i j h' tk C hi hj (fun b o e => hk' b o (nea b o e) (keep b o e)) q
  · obtain ⟨heq, hlt⟩ := f4 pm hp hu
    refine wpAny_pure ⟨_, rfl, ?_⟩
    obtain ⟨e, he⟩ := sortedHeap_at (out := (pm.toList.map fun i => its.getD i Value.none).toArray) hoL
    have fr : H h2.objs.size = Option.none := I2.hok.fresh (Nat.le_refl _)
    have hds : (pm.toList.map fun i => (ns.map kT).getD i .non) = (sortT ns).map kT := by
      rw [← heq, List.map_map]
      apply List.map_congr_left
      intro i hi
      have hi' := hlt i hi
      show (ns.map kT).getD i .non = kT (ns.getD i [])
      rw [getD_at (x := kT (ns[i]'(by omega))) (by simp [show i < ns.length by omega]), getD_at (x := ns[i]'(by omega)) (by simp)]
    have hrep := reps_perm rp pm.toList fun i hi => by have := hlt i hi; simp; omega
    rw [hds] at hrep
    have hvals := vals_perm rv' pm.toList fun i hi => hlt i hi
    have rn := res_new fr hrep
    refine ⟨.ref h2.objs.size, _, I2.laid (a := h2.objs.size) (h' := sortedHeap (h2.push (seqObj "list" its.toArray 0)) h2.objs.size its (pm.toList.map fun i => its.getD i Value.none).toArray) (o := .lst (pm.toList.map fun i => (zs.map fun x => V.ref x.2.1).getD i .non)) (t' := tk) (fun b o q => ?_) (Nat.le_refl _) ⟨?_, _, e, hvals, ?_⟩, rfl, q _ _ (same_upd fr _) rn⟩
    · have lt : b < h2.objs.size := Heap.lt_size q
      have q' := Heap.get?_push_of_some (seqObj "list" its.toArray 0) q
      rw [sortedHeap_old (Nat.ne_of_lt lt) (Heap.lt_size q')]; exact q'
    · rw [List.length_map, Array.length_toList, hp.size]; exact Nat.le_of_lt (small1000 (by omega))
    · simpa [seqObj] using he
end
end L2.LW
set_option linter.all false
set_option maxHeartbeats 4000000
namespace L2.LW
open PySem PySem.Spec PySem.W PySem.Calls PyProof.Rows
section
variable {X : Cx} {fn : Nat → List D → Option SV} {fa : Nat → List D → Option Ans} {fuel : Nat} {a b c e : Expr} {ca cb cc ce : E} {pos p : Pos} {x : Str}
theorem i_skeys {apos cpos : Pos} (hc : X.calm = true) (hg : Gl X "sorted") (hm : X.mg "sorted" = Option.none) (ha : IE X fn a ca)
    (hst : starEach [Expr.Call (.Attribute a "keys" apos) [] [] cpos] X.env = (false, eval (Expr.Call (.Attribute a "keys" apos) [] [] cpos) X.env) :: starEach [] X.env := by rfl)
    (hbase : attributeBase a "keys" X.env (eval a X.env) = eval a X.env := by rfl) (hline : (apos.endLine == cpos.line) = true := by rfl) :
    IE X fn (.Call (.Name "sorted" p) [.Call (.Attribute a "keys" apos) [] [] cpos] [] pos) (.prim .skeys (.cons ca .nil)) :=
  .mk <| (pe_callB (cr_skeys hc) hg hm PyProof.Rows.boot_sorted (pa_cons (pe_bm0 PySem.F.plainAttrs_dict PySem.F.slot_dict_keys PySem.F.type_dict_keys mt_keys ha.v hbase hline) pa_nil hst) (by decide) (by decide) hst sa_nil).imp fun σ H Q ⟨W, ρ, r, hR, he, q⟩ => by
    simp only [evE, evEs, Option.bind_eq_some_iff, Option.map_eq_some_iff] at he
    obtain ⟨rs, ⟨r1, e1, rs', e3, rfl⟩, e4⟩ := he
    cases e3
    refine ⟨W, ρ, r1, hR, e1, fun v1 H1 s1 f1 => ?_⟩
    have hsee := frz_sees (.cons f1 .nil)
    have e5 : pSkeys [seeD r1] = some r := e4
    unfold pSkeys at e5
    split at e5
    case h_2 => cases e5
    rename_i ks vs z
    have z1 : seeD r1 = .dct true ks vs := by simpa using z
    obtain ⟨d0, ed, hs⟩ := pr1 hsee
    simp at ed
    subst ed
    rw [z1] at hs
    obtain ⟨a0, ns, ys, rfl, rfl, hH, hl, _⟩ := hs.dT
    refine ⟨.inr (.inr (.inl ⟨rfl, .inr ⟨_, hH⟩⟩)), a0, _, rfl, rfl, hH, fun p0 hp0 => ?_⟩
    exact ⟨p0, a0, rfl, upd_same, args_vr hR (s1.trans (same_upd hp0 _)) (.cons (f1.same (same_upd hp0 _)) .nil) e4 q⟩
end
end L2.LW
set_option linter.all false
set_option maxHeartbeats 4000000
namespace L2.LW
open PySem PySem.Spec PySem.W PySem.Calls PyProof.Rows
/-! ### d.update(e), keys that are tuples -/
def hcell (i : Nat) : Int := reduceHash (Builtin.Tuple.tupleHashOf [hashInt ((i / 8 : Nat) : Int), hashInt ((i % 8 : Nat) : Int)])
theorem hash_nodup : ((List.range 64).map hcell).Nodup := by decide +kernel
theorem hash_of {P : Program} {w : World} {a b : Int} (h : 0 ≤ a ∧ a ≤ 7 ∧ 0 ≤ b ∧ b ≤ 7) : (a * 8 + b).toNat < 64 ∧ tupleKeyHash (mixKind P w) [Sum.inl a, Sum.inl b] = hcell (a * 8 + b).toNat := by
  refine ⟨by omega, ?_⟩
  unfold hcell
  rw [show (((a * 8 + b).toNat / 8 : Nat) : Int) = a by omega, show (((a * 8 + b).toNat % 8 : Nat) : Int) = b by omega]
  rfl
def small8K (k : List Key) : Prop := ∃ a b : Int, k = [Sum.inl a, Sum.inl b] ∧ 0 ≤ a ∧ a ≤ 7 ∧ 0 ≤ b ∧ b ≤ 7
theorem hash_inj {P : Program} {w : World} {k k' : List Key} (h : small8K k) (h' : small8K k') (e : tupleKeyHash (mixKind P w) k = tupleKeyHash (mixKind P w) k') : k = k' := by
  obtain ⟨a, b, rfl, r⟩ := h
  obtain ⟨c, d, rfl, r'⟩ := h'
  obtain ⟨l1, e1⟩ := hash_of (P := P) (w := w) r
  obtain ⟨l2, e2⟩ := hash_of (P := P) (w := w) r'
  rw [e1, e2] at e
  have e3 : ((List.range 64).map hcell)[(a * 8 + b).toNat]'(by rw [List.length_map, List.length_range]; exact l1) = ((List.range 64).map hcell)[(c * 8 + d).toNat]'(by rw [List.length_map, List.length_range]; exact l2) := by simpa using e
  have := (List.getElem_inj hash_nodup).mp e3
  have ea : a = c := by omega
  have eb : b = d := by omega
  rw [ea, eb]
section
variable {prog : Program} {w : World} {K : Type} [DecidableEq K] {knd : HeapKind prog w K} {A : Around} {E : Value → Shared → Prop} {s : Shared}
/-- a pair stored by its known hash -/
theorem h_set {d a : Addr} {xs : List (K × Addr × Value)} {k : K} {v : Value} {Q : Unit → Shared → Prop} (hu : knd.room A) (hkey : knd.is s.heap k a) (hm : s.heap.DictOfH knd d xs) (hsz : xs.length ≤ sizeLine)
    (q : ∀ h2, h2.DictOfH knd d (storedH xs k a v) → Heap.SameBut d s.heap h2 → Q () { s with heap := h2 }) : wpAny (model prog w) A (dictSetHashed d (.ref a) (knd.hash k) v) Q E s := by
  obtain ⟨ob, tb, ep, e1, ex, e2, e3, al, nd⟩ := hm
  have lz := size_of_entries e3
  unfold dictSetHashed
  try with_reducible refine wpAny_holding ?_
  refine wpAny_bind (wpAny_dictFind_heap hu hkey e1 e2 e3 al nd (fun no => ?_) fun j p hj => ?_)
  · have ak := atKey_none_of_get no
    have nm := not_mem_keys_of_get no
    refine wpAny_bind (wpAny_rule (wpAny_updateDictKeys (hz := by omega) e1 e2 (q _ ?_ (Heap.SameBut.update ..))))
    rw [storedH_new ak]
    refine ⟨_, _, ep + 1, Heap.get?_update_self _ e1 (Obj.isFreed_of_dict (Obj.data_mapDictKeys e2 _)), ex.mapDictKeys _, Obj.data_mapDictKeys e2 _, by simp [e3, entryOfKey], fun z hz => ?_, ?_⟩
    · rcases List.mem_append.mp hz with hz | hz
      · exact knd.keeps (al z hz) e1 e2 (Heap.SameBut.update ..)
      · rw [List.mem_singleton] at hz
        rw [hz]
        exact knd.keeps hkey e1 e2 (Heap.SameBut.update ..)
    · rw [List.map_append, List.nodup_append]
      exact ⟨nd, by simp, fun y hy z hz e => nm (by simp at hz; rw [← hz, ← e]; exact hy)⟩
  · have ak := atKey_of_get nd hj
    refine wpAny_bind (wpAny_rule (wpAny_bind (wpAny_updateDict e1 e2 (wpAny_point (q _ ?_ (Heap.SameBut.update ..))))))
    rw [storedH_old ak]
    refine ⟨_, _, ep, Heap.get?_update_self _ e1 (Obj.isFreed_of_dict (Obj.data_mapDict e2 _)), ex.mapDict _, Obj.data_mapDict e2 _, ?_, fun z hz => ?_, ?_⟩
    · have mm := modify_map_putAt (entryOfKey knd) (fun t : DictEntry => { t with val := v }) k v (fun _ _ => rfl) nd hj
      rw [← e3] at mm
      obtain ⟨l⟩ := tb
      simpa using mm
    · obtain ⟨y, hy, rfl⟩ := List.mem_map.mp hz
      unfold putAt
      split <;> exact knd.keeps (al y hy) e1 e2 (Heap.SameBut.update ..)
    · rw [keys_map_putAt]; exact nd
def mergedH (xs zs : List (K × Addr × Value)) : List (K × Addr × Value) := zs.foldl (fun acc z => storedH acc z.1 z.2.1 z.2.2) xs
theorem storedH_len (xs : List (K × Addr × Value)) (k : K) (a : Addr) (v : Value) : (storedH xs k a v).length ≤ xs.length + 1 := by
  unfold storedH; split <;> simp
theorem mergedH_len (xs : List (K × Addr × Value)) : ∀ zs : List (K × Addr × Value), (mergedH xs zs).length ≤ xs.length + zs.length := fun zs => by
  induction zs generalizing xs with
  | nil => simp [mergedH]
  | cons z r ih =>
    have h1 := ih (storedH xs z.1 z.2.1 z.2.2)
    have h2 := storedH_len xs z.1 z.2.1 z.2.2
    show (mergedH (storedH xs z.1 z.2.1 z.2.2) r).length ≤ _
    simp; omega
theorem mergedH_new : ∀ (zs xs : List (K × Addr × Value)), ((xs ++ zs).map (·.1)).Nodup → mergedH xs zs = xs ++ zs
  | [], xs, _ => by simp [mergedH]
  | z :: r, xs, h => by
    have ak : atKey xs z.1 = none := atKey_none_of_get fun j p hj => by
      rw [List.map_append, List.map_cons, List.nodup_append] at h
      exact h.2.2 z.1 (List.mem_map.mpr ⟨(z.1, p), List.mem_of_getElem? hj, rfl⟩) z.1 List.mem_cons_self rfl
    show mergedH (storedH xs z.1 z.2.1 z.2.2) r = _
    rw [storedH_new ak, mergedH_new r _ (by simpa using h)]
    simp
theorem mergedH_snoc (xs zs : List (K × Addr × Value)) (i : Nat) (z : K × Addr × Value) (h : zs[i]? = some z) : mergedH xs (zs.take (i + 1)) = storedH (mergedH xs (zs.take i)) z.1 z.2.1 z.2.2 := by
  simp [mergedH, List.take_add_one, h, List.foldl_append]
end
section
variable {P : Program} {w : World} {A : Around} {E : Value → Shared → Prop} {s : Shared}
/-- the keys of a dict of tuples stay what they are -/
theorem e_empty {id : String} {d : Addr} {ob : Obj} {tb : Array DictEntry} {ep : Nat} {zs : List (List Key × Addr × Value)} {Q : Array DictEntry → Shared → Prop} (e1 : s.heap.get? d = some ob) (e2 : ob.data = .dict tb ep) (e3 : tb.toList = zs.map (entryOfKey (tupleKind (mixKind P w))))
    (al : ∀ z ∈ zs, (tupleKind (mixKind P w)).is s.heap z.1 z.2.1) (nd : (zs.map (·.1)).Nodup) (sm : ∀ z ∈ zs, small8K z.1) (q : Q tb s) : wpAny (model P w) A (Builtin.Dict.entriesForEmpty id d) Q E s := by
  unfold Builtin.Dict.entriesForEmpty
  refine wpAny_bind (wpAny_dictEntries e1 e2 (wpAny_bind ?_))
  rw [← Array.forIn_toList]
  refine wpAny_forIn_list _ (fun rest _ s' => s' = s ∧ ∀ t ∈ rest, t ∈ tb.toList) _ (fun t rest b s' ⟨hs, hall⟩ => ?_) (fun b s' ⟨hs, _⟩ => ?_) _ _ ⟨rfl, fun t ht => ht⟩
  · subst hs
    have ht := hall t List.mem_cons_self
    have ht2 := ht
    rw [e3] at ht2
    obtain ⟨z, hz, rfl⟩ := List.mem_map.mp ht2
    have tq := al z hz
    have nxt : (s' = s' ∧ ∀ t ∈ rest, t ∈ tb.toList) := ⟨rfl, fun y hy => hall y (List.mem_cons_of_mem _ hy)⟩
    refine wpAny_bind ?_
    show wpAny _ _ (Builtin.Dict.quietEq (.ref z.2.1)) _ _ _
    unfold Builtin.Dict.quietEq
    refine wpAny_bind (wpAny_specialOf (IsTupleKey.typeIs tq) PySem.F.slot_tuple_eq.lookup (wpAny_pure ?_))
    have one : ¬ (tb.filter fun y => y.hash == (entryOfKey (tupleKind (mixKind P w)) z).hash).size > 1 := by
      intro big
      have : (tb.toList.filter fun y => y.hash == (entryOfKey (tupleKind (mixKind P w)) z).hash).length > 1 := by
        have := big
        rw [← Array.length_toList, Array.toList_filter] at this
        exact this
      rw [e3, List.filter_map, List.length_map] at this
      have nd2 : zs.Nodup := (List.pairwise_map.mp nd).imp fun h e => h (by rw [e])
      have le : (zs.filter ((fun y => y.hash == (entryOfKey (tupleKind (mixKind P w)) z).hash) ∘ entryOfKey (tupleKind (mixKind P w)))).length ≤ [z].length := by
        have key : ∀ y ∈ zs.filter ((fun y => y.hash == (entryOfKey (tupleKind (mixKind P w)) z).hash) ∘ entryOfKey (tupleKind (mixKind P w))), y = z := fun y hy => by
          rw [List.mem_filter] at hy
          obtain ⟨hy1, hy2⟩ := hy
          have eh : tupleKeyHash (mixKind P w) y.1 = tupleKeyHash (mixKind P w) z.1 := by simpa [entryOfKey, tupleKind] using hy2
          have ek := hash_inj (sm y hy1) (sm z hz) eh
          obtain ⟨i, hi, rfl⟩ := List.getElem_of_mem hy1
          obtain ⟨j, hj, rfl⟩ := List.getElem_of_mem hz
          have : i = j := (List.getElem_inj nd (h₀ := by simpa using hi) (h₁ := by simpa using hj)).mp (by simpa using ek)
          subst this; rfl
        have nf := nd2.filter ((fun y => y.hash == (entryOfKey (tupleKind (mixKind P w)) z).hash) ∘ entryOfKey (tupleKind (mixKind P w)))
        generalize zs.filter ((fun y => y.hash == (entryOfKey (tupleKind (mixKind P w)) z).hash) ∘ entryOfKey (tupleKind (mixKind P w))) = L at key nf
        match L, nf, key with
        | [], _, _ => simp
        | [_], _, _ => simp
        | x :: y :: r, nf, key =>
          have h1 := key x (by simp)
          have h2 := key y (by simp)
          rw [h1, h2] at nf
          simp at nf
      simp at le
      omega
    have ne : ((some (Value.builtin "tuple.__eq__") == some (Value.builtin "object.__eq__")) = false) := by decide
    rw [ne]
    simp only [Bool.not_false, if_true]
    rw [if_neg one]
    exact wpAny_pure nxt
  · subst hs
    exact wpAny_pure q
/-- all of one into the other -/
theorem m_dict {nm : String} {d o : Addr} {xs zs : List (List Key × Addr × Value)} {Q : Unit → Shared → Prop} (hu : A.units < cLine) (ne : d ≠ o) (hoS : (o == sysModules) = false)
    (hd : s.heap.DictOfH (tupleKind (mixKind P w)) d xs) (ho : s.heap.DictOfH (tupleKind (mixKind P w)) o zs) (sm : ∀ z ∈ zs, small8K z.1) (hsz : xs.length + zs.length < sizeLine)
    (q : ∀ h2, h2.DictOfH (tupleKind (mixKind P w)) d (mergedH xs zs) → Heap.SameBut d s.heap h2 → Q () { s with heap := h2 }) : wpAny (model P w) A (Builtin.Dict.mergeDict nm d o) Q E s := by
  obtain ⟨od, td, pd, d1, d2, d3, d4, d5, d6⟩ := id hd
  obtain ⟨oo, to, po, o1, o2, o3, o4, o5, o6⟩ := id ho
  have lz := size_of_entries o4
  have lx := size_of_entries d4
  unfold Builtin.Dict.mergeDict
  rw [if_neg (by simpa using ne)]
  unfold Builtin.Dict.showsAll
  rw [if_neg (by rw [hoS]; exact Bool.false_ne_true)]
  refine wpAny_bind (wpAny_pure (wpAny_bind (wpAny_dictEntries o1 o3 ?_)))
  dsimp only
  split
  · refine wpAny_bind (wpAny_dictEntries d1 d3 ?_)
    split
    · rename_i em
      have x0 : xs = [] := List.length_eq_zero_iff.mp (by rw [← lx, Array.isEmpty_iff.mp em]; rfl)
      subst x0
      refine wpAny_bind (e_empty o1 o3 o4 o5 o6 sm ?_)
      split
      · refine wpAny_bind (wpAny_updateDictKeysTo d1 d3 (wpAny_pure (q _ ?_ (Heap.SameBut.update ..))) (by omega))
        rw [mergedH_new zs [] (by simpa using o6)]
        exact ⟨_, _, pd + 1, Heap.get?_update_self _ d1 (Obj.isFreed_of_dict (Obj.data_mapDictKeys d3 _)), d2.mapDictKeys _, Obj.data_mapDictKeys d3 _, o4, fun z hz' => (tupleKind (mixKind P w)).keeps (o5 z hz') d1 d3 (Heap.SameBut.update ..), o6⟩
      · rename_i h0
        have e0 : to.size = 0 := by
          have : to.isEmpty = true := by simpa using h0
          rw [Array.isEmpty_iff.mp this]; rfl
        have z0 : zs = [] := List.length_eq_zero_iff.mp (by omega)
        subst z0
        exact wpAny_pure (q _ (by simpa [mergedH] using hd) (Heap.SameBut.refl _ _))
    · refine wpAny_bind (wpAny_dictEpoch o1 o3 (wpAny_bind (wpAny_dictEntries o1 o3 (wpAny_bind ?_))))
      rw [Std.Legacy.Range.forIn_eq_forIn_range']
      simp only [Nat.div_one, Nat.add_sub_cancel, Nat.sub_zero, Std.Legacy.Range.size]
      refine wpAny_forIn_list _ (fun rest _ s' => ∃ h2 i, s' = { s with heap := h2 } ∧ rest = List.range' i (to.size - i) ∧ i ≤ to.size ∧ h2.DictOfH (tupleKind (mixKind P w)) d (mergedH xs (zs.take i)) ∧ h2.get? o = some oo ∧ Heap.SameBut d s.heap h2)
        _ (fun x rest b s' => ?_) (fun b s' => ?_) _ _ ⟨s.heap, 0, rfl, by simp, Nat.zero_le _, by simpa [mergedH] using hd, o1, Heap.SameBut.refl _ _⟩
      · rintro ⟨h2, i, rfl, er, hi, hd2, oh, sb⟩
        have lt : i < to.size := by
          by_cases z : i < to.size
          · exact z
          · rw [show to.size - i = 0 by omega] at er; simp at er
        rw [show to.size - i = (to.size - (i + 1)) + 1 by omega, List.range'_succ] at er
        injection er with ex erest
        subst ex
        refine wpAny_bind (wpAny_dictEntries oh o3 ?_)
        obtain ⟨z, ez⟩ : ∃ z, zs[x]? = some z := ⟨zs[x]'(by omega), List.getElem?_eq_getElem _⟩
        have et : to[x]? = some (entryOfKey (tupleKind (mixKind P w)) z) := by rw [entry_at o4 x, ez]; rfl
        rw [et]
        show wpAny _ _ (holding [Value.ref z.2.1, z.2.2] (dictSetHashed d (.ref z.2.1) ((tupleKind (mixKind P w)).hash z.1) z.2.2) >>= _) _ _ _
        have hz := List.mem_of_getElem? ez
        have ml := mergedH_len xs (zs.take x)
        have tl : (zs.take x).length ≤ zs.length := by rw [List.length_take]; omega
        refine wpAny_bind (wpAny_holding (h_set (s := { s with heap := h2 }) hu ((tupleKind (mixKind P w)).keeps (o5 z hz) d1 d3 sb) hd2 (by omega) fun h3 hd3 sb3 => ?_))
        have oh3 : h3.get? o = some oo := (sb3.2 o (Ne.symm ne)).trans oh
        refine wpAny_bind (wpAny_dictEpoch (s := { s with heap := h3 }) oh3 o3 ?_)
        rw [if_neg (by simp)]
        exact wpAny_pure ⟨h3, x + 1, rfl, erest, lt, by rw [mergedH_snoc xs zs x z ez]; exact hd3, oh3, sb.trans sb3⟩
      · rintro ⟨h2, i, rfl, er, hi, hd2, oh, sb⟩
        have : i = to.size := by
          by_cases z : i < to.size
          · rw [show to.size - i = (to.size - (i + 1)) + 1 by omega, List.range'_succ] at er; cases er
          · omega
        rw [this, lz, List.take_length] at hd2
        exact wpAny_pure (q h2 hd2 sb)
  · refine wpAny_bind (wpAny_dictEpoch o1 o3 (wpAny_bind (wpAny_dictEntries o1 o3 (wpAny_bind ?_))))
    rw [Std.Legacy.Range.forIn_eq_forIn_range']
    simp only [Nat.div_one, Nat.add_sub_cancel, Nat.sub_zero, Std.Legacy.Range.size]
    refine wpAny_forIn_list _ (fun rest _ s' => ∃ h2 i, s' = { s with heap := h2 } ∧ rest = List.range' i (to.size - i) ∧ i ≤ to.size ∧ h2.DictOfH (tupleKind (mixKind P w)) d (mergedH xs (zs.take i)) ∧ h2.get? o = some oo ∧ Heap.SameBut d s.heap h2)
      _ (fun x rest b s' => ?_) (fun b s' => ?_) _ _ ⟨s.heap, 0, rfl, by simp, Nat.zero_le _, by simpa [mergedH] using hd, o1, Heap.SameBut.refl _ _⟩
    · rintro ⟨h2, i, rfl, er, hi, hd2, oh, sb⟩
      have lt : i < to.size := by
        by_cases z : i < to.size
        · exact z
        · rw [show to.size - i = 0 by omega] at er; simp at er
      rw [show to.size - i = (to.size - (i + 1)) + 1 by omega, List.range'_succ] at er
      injection er with ex erest
      subst ex
      refine wpAny_bind (wpAny_dictEntries oh o3 ?_)
      obtain ⟨z, ez⟩ : ∃ z, zs[x]? = some z := ⟨zs[x]'(by omega), List.getElem?_eq_getElem _⟩
      have et : to[x]? = some (entryOfKey (tupleKind (mixKind P w)) z) := by rw [entry_at o4 x, ez]; rfl
      rw [et]
      show wpAny _ _ (holding [Value.ref z.2.1, z.2.2] (dictSetHashed d (.ref z.2.1) ((tupleKind (mixKind P w)).hash z.1) z.2.2) >>= _) _ _ _
      have hz := List.mem_of_getElem? ez
      have ml := mergedH_len xs (zs.take x)
      have tl : (zs.take x).length ≤ zs.length := by rw [List.length_take]; omega
      refine wpAny_bind (wpAny_holding (h_set (s := { s with heap := h2 }) hu ((tupleKind (mixKind P w)).keeps (o5 z hz) d1 d3 sb) hd2 (by omega) fun h3 hd3 sb3 => ?_))
      have oh3 : h3.get? o = some oo := (sb3.2 o (Ne.symm ne)).trans oh
      refine wpAny_bind (wpAny_dictEpoch (s := { s with heap := h3 }) oh3 o3 ?_)
      rw [if_neg (by simp)]
      exact wpAny_pure ⟨h3, x + 1, rfl, erest, lt, by rw [mergedH_snoc xs zs x z ez]; exact hd3, oh3, sb.trans sb3⟩
    · rintro ⟨h2, i, rfl, er, hi, hd2, oh, sb⟩
      have : i = to.size := by
        by_cases z : i < to.size
        · rw [show to.size - i = (to.size - (i + 1)) + 1 by omega, List.range'_succ] at er; cases er
        · omega
      rw [this, lz, List.take_length] at hd2
      exact wpAny_pure (q h2 hd2 sb)
end
end L2.LW
set_option linter.all false
set_option maxHeartbeats 4000000
namespace L2.LW
open PySem PySem.Spec PySem.W PySem.Calls PyProof.Rows
def mergeV (kvs kvs2 : List (List Key × V)) : List (List Key × V) := kvs2.foldl (fun acc p => putK acc p.1 p.2) kvs
theorem KT.merge {H : Hp} : ∀ {kvs2 : List (List Key × V)} {zs : List (List Key × Addr × Value)}, KT H kvs2 zs → ∀ {kvs : List (List Key × V)} {xs : List (List Key × Addr × Value)}, KT H kvs xs → KT H (mergeV kvs kvs2) (mergedH xs zs)
  | _, _, .nil, _, _, r => r
  | _, _, .cons (a := p) (b := z) h t, kvs, xs, r => by
    have r1 : KT H (putK kvs p.1 p.2) (storedH xs z.1 z.2.1 z.2.2) := by
      have e : p.1 = z.1 := h.1
      rw [e]
      exact KT.put r z.1 (by rw [← e]; exact h.2.1) h.2.2
    exact KT.merge t r1
section
variable {X : Cx}
theorem mt_update (hu : X.A.units + 64 < cLine) : MtR X "dict.update" (fun x xs H Q => ∃ a b kvs kvs2, x = .ref a ∧ xs = [.ref b] ∧ a ≠ b ∧ H a = some (.dT kvs) ∧ H b = some (.dT kvs2) ∧ (∀ p ∈ kvs2, small8K p.1) ∧ kvs.length + kvs2.length < sizeLine ∧ Q .non (upd H a (.dT (mergeV kvs kvs2)))) := by
  rintro pins s σ H x xs v us Q I rx rs ⟨a, b, kvs, kvs2, rfl, rfl, ne, ea, eb, sm, hsz, q⟩
  cases rx
  obtain ⟨u, rfl, ru⟩ := vals1 rs
  cases ru
  obtain ⟨_, hd, zs, rel, dd⟩ := dt_of I.hok ea
  obtain ⟨-, hd2, zs2, rel2, dd2⟩ := dt_of I.hok eb
  have l1 : zs.length = kvs.length := (Paired.length rel).symm
  have l2 : zs2.length = kvs2.length := (Paired.length rel2).symm
  have sm2 : ∀ z ∈ zs2, small8K z.1 := by
    clear q hsz l2 dd2 eb
    induction rel2 with
    | nil => intro z hz; cases hz
    | cons h t ih =>
      intro z hz
      rcases List.mem_cons.mp hz with rfl | hz
      · rw [← h.1]; exact sm _ List.mem_cons_self
      · exact ih (fun p hp => sm p (List.mem_cons_of_mem _ hp)) z hz
  refine wpAny_call_entry PySem.F.slot_dict_update dd.typeIs PySem.F.entry_dict_update ?_ (PySem.F.args_dict_update_2 _ _)
  unfold Builtin.«dict.update»
  refine wpAny_bind ?_
  unfold Builtin.Dict.selfAndRest
  refine wpAny_bind (wpAny_notOrdered_dict dd.typeIs ?_)
  show wpAny _ _ (pure (a, [Value.ref b])) _ _ s
  refine wpAny_pure ?_
  show wpAny _ _ (Builtin.Dict.updateFrom "dict.update" a (.ref b) [] .none) _ _ s
  unfold Builtin.Dict.updateFrom
  refine wpAny_bind (wpAny_typeOf dd2.typeIs ?_)
  rw [if_neg (by decide)]
  refine wpAny_bind ?_
  unfold Builtin.Dict.merge
  refine wpAny_bind ?_
  unfold Builtin.Dict.readDirectly
  refine wpAny_bind (wpAny_isInstance dd2.typeIs isSubtype_dict_dict ?_)
  simp only [Bool.not_true, Bool.false_eq_true, if_false]
  refine wpAny_bind (wpAny_specialOf dd2.typeIs PySem.F.slot_dict_iter.lookup (wpAny_pure ?_))
  simp only [if_true, beq_self_eq_true]
  refine wpAny_bind (wpAny_pure (m_dict (show X.A.in1.units < cLine from Nat.lt_of_le_of_lt (Nat.le_refl _) (by show X.A.units + 1 < cLine; omega)) ne hd2 dd dd2 sm2 (by omega) fun h2 dd3 sb => ?_))
  show wpAny _ _ (Builtin.Dict.addKeywords a [] >>= _) _ _ _
  refine wpAny_bind (wpAny_pure (wpAny_pure ⟨.none, rfl, .non, _, ?_, rfl, q⟩))
  obtain ⟨ob, es, ep, q1, q2, q3, q4, _, q5⟩ := dd3
  have ml := mergedH_len zs zs2
  refine d_write (t' := s.toks) I (by rw [ea]; exact True.intro) sb ⟨ob, q1⟩ ⟨?_, hd, _, (KT.merge rel2 rel).keeps fun c ys ec => ?_, ob, es, ep, q1, q2, q3, q4, q5⟩
  · have := Paired.length (KT.merge rel2 rel)
    omega
  · rw [upd_ne (ne_of ec ea (fun z => nomatch z))]
    exact ec
end
theorem merge_T {K : PySem.W.Frag} {W : Addr → Prop} {H : Hp} : ∀ {ns2 : List (List Int)} {ys2 : List V} {vs2 : List D}, ns2.length = ys2.length → Reps K W H vs2 ys2 → ∀ {ns : List (List Int)} {ys : List V} {vs : List D}, ns.length = ys.length → Reps K W H vs ys →
    ORep K W H (.dct true (dmerge (ns.map kT) vs (ns2.map kT) vs2).1 (dmerge (ns.map kT) vs (ns2.map kT) vs2).2) (.dT (mergeV (dTof ns ys) (dTof ns2 ys2)))
  | [], [], _, _, .nil, ns, ys, vs, l, r => .dT l r
  | n :: ns2, y :: ys2, _, l2, .cons (d := d) (ds := dt) h t, ns, ys, vs, l, r => by
    have o1 := dput_T l r n h
    have st : ∀ {D0 : D} {P0 : List (List Key × V)}, ORep K W H D0 (.dT P0) → ∃ ns' ys' vs', D0 = .dct true (ns'.map kT) vs' ∧ P0 = dTof ns' ys' ∧ ns'.length = ys'.length ∧ Reps K W H vs' ys' := by
      intro D0 P0 o
      cases o with
      | dT l r => exact ⟨_, _, _, rfl, rfl, l, r⟩
    obtain ⟨ns', ys', vs', e1, e2, l', r'⟩ := st o1
    have ih := merge_T (ns2 := ns2) (ys2 := ys2) (by simpa using l2) t l' r'
    have e3 : dmerge (ns.map kT) vs ((n :: ns2).map kT) (d :: dt) = dmerge (ns'.map kT) vs' (ns2.map kT) dt := by
      rw [List.map_cons, dmerge, e1]
    have e4 : mergeV (dTof ns ys) (dTof (n :: ns2) (y :: ys2)) = mergeV (dTof ns' ys') (dTof ns2 ys2) := by
      show mergeV (putK (dTof ns ys) (n.map Sum.inl) y) (dTof ns2 ys2) = _
      rw [e2]
    rw [e3, e4]
    exact ih
theorem small_T {ns : List (List Int)} {ys : List V} (h : (ns.map kT).all small8 = true) : ∀ p ∈ dTof ns ys, small8K p.1 := by
  intro p hp
  have h1 := (List.of_mem_zip (show (p.1, p.2) ∈ _ from hp)).1
  rw [List.mem_map] at h1
  obtain ⟨n, hn, e⟩ := h1
  have h2 := List.all_eq_true.mp h (kT n) (List.mem_map.mpr ⟨n, hn, rfl⟩)
  rw [← e]
  unfold kT small8 at h2
  match n, h2 with
  | [], h2 => simp at h2
  | [_], h2 => simp at h2
  | [a, b], h2 => exact ⟨a, b, rfl, by simpa using h2⟩
  | _ :: _ :: _ :: _, h2 => simp at h2
section
variable {X : Cx} {fn : Nat → List D → Option SV} {fa : Nat → List D → Option Ans} {fuel : Nat} {pos p p2 : Pos} {x y : Str}
theorem s_dupd (i j : Nat) {apos cpos : Pos} (hu : X.A.units + 64 < cLine) (hN : X.N[i]? = some x) (hv : Vis X.env.scope x) (hN2 : X.N[j]? = some y) (hv2 : Vis X.env.scope y) (hst : starEach [Expr.Name y p2] X.env = (false, eval (.Name y p2) X.env) :: starEach [] X.env)
    (hd : (x == ("__debug__" : Str)) = false) (hcd : (x == ("__classdict__" : Str)) = false) (hd2 : (y == ("__debug__" : Str)) = false) (hcd2 : (y == ("__classdict__" : Str)) = false)
    (hs : swapsWith (.Call (.Attribute (.Name x p) "update" apos) [.Name y p2] [] cpos) Option.none pos.line X.env = pure false := by rfl)
    (hbase : attributeBase (.Name x p) "update" X.env (eval (.Name x p) X.env) = eval (.Name x p) X.env := by rfl)
    (hline : (apos.endLine == cpos.line) = true := by rfl) :
    IS X (exS fa fuel (.dupd i j)) (.Expr (.Call (.Attribute (.Name x p) "update" apos) [.Name y p2] [] cpos) pos) :=
  .mk <| (ps_expr (pe_bm PySem.F.plainAttrs_dict PySem.F.slot_dict_update PySem.F.type_dict_update (mt_update hu) (pe_var hN hv hd hcd) (pa_cons (pe_var hN2 hv2 hd2 hcd2) pa_nil hst) hbase (by rw [hst]; rfl) hline hst sa_nil) hs).imp fun D σ H ⟨W, ρ, y, hR, hy, q⟩ => by
    simp only [exS] at hy
    unfold dupdD at hy
    split at hy
    · cases hy
    rename_i nij
    split at hy
    case h_2 => cases hy
    rename_i x0 h
    unfold dupdV at hy
    split at hy
    case h_2 => cases hy
    rename_i ks vs ks2 vs2 hc hc2
    split at hy
    case isFalse => cases hy
    rename_i hcond
    cases hy
    rw [Bool.and_eq_true, decide_eq_true_iff] at hcond
    unfold cellAtS at hc2
    split at hc2
    case h_2 => cases hc2
    rename_i y0 h0
    obtain ⟨a, o, h1, h2, h3, h4⟩ := hR.own i _ _ h hc
    obtain ⟨b, o2, g1, g2, g3, g4⟩ := hR.own j _ _ h0 hc2
    have ne : a ≠ b := fun z => nij (hR.inj i j _ _ _ _ a h h0 hc hc2 h1 (by rw [z]; exact g1))
    cases h4 with
    | dT l rp =>
    cases g4 with
    | dT l2 rp2 =>
    have le := line_eq
    refine ⟨_, h1, .inr (.inr (.inl ⟨rfl, .inr ⟨_, h3⟩⟩)), _, g1, a, b, _, _, rfl, rfl, ne, h3, g3, small_T hcond.1, ?_, ?_⟩
    · rw [dTof_len l, dTof_len l2, ← le]
      simpa using hcond.2
    · exact q W σ _ (post_put hR h hc h1 (.refl H) h3 ⟨fun _ z => (nomatch z), fun _ _ z => (nomatch z)⟩ (merge_T l2 rp2 l rp))
end
end L2.LW
set_option linter.all false
namespace L2.LW
open PySem
/-! ### the evaluator's equations, for the rewriter -/
section
variable {fn : Nat → List D → Option SV} {fa : Nat → List D → Option Ans} {fuel : Nat} {ρ : Env}
@[simp] theorem evE_int {i : Int} : evE fn (.int i) ρ = some (.val (.int i)) := by rw [evE]
@[simp] theorem evE_bl {i : Bool} : evE fn (.bl i) ρ = some (.val (.bl i)) := by rw [evE]
@[simp] theorem evE_non : evE fn .non ρ = some (.val .non) := by rw [evE]
@[simp] theorem evE_str {i : Str} : evE fn (.str i) ρ = some (.val (.str i)) := by rw [evE]
@[simp] theorem evE_var {i : Nat} : evE fn (.var i) ρ = look ρ i := by rw [evE]
@[simp] theorem evE_prim {p : Prim} {es : Es} : evE fn (.prim p es) ρ = (evEs fn es ρ).bind fun rs => primD p (rs.map seeD) := by rw [evE]
@[simp] theorem evE_tup {es : Es} : evE fn (.tup es) ρ = (evEs fn es ρ).bind fun rs => (toDs rs).map fun ds => .val (.tup ds) := by rw [evE]
@[simp] theorem evE_lst {es : Es} : evE fn (.lst es) ρ = (evEs fn es ρ).bind fun rs => (toDs rs).map fun ds => .obj true (.lst ds) := by rw [evE]
def andV (r : SV) (k : Option SV) : Option SV := match r with
  | .val (.bl true) => k
  | .val (.bl false) => some (.val (.bl false))
  | _ => none
def orV (r : SV) (k : Option SV) : Option SV := match r with
  | .val (.bl true) => some (.val (.bl true))
  | .val (.bl false) => k
  | _ => none
def notV (r : SV) : Option SV := match r with
  | .val (.bl b) => some (.val (.bl (!b)))
  | _ => none
@[simp] theorem andV_bl {b : Bool} {k : Option SV} : andV (.val (.bl b)) k = if b then k else some (.val (.bl false)) := by cases b <;> rfl
@[simp] theorem orV_bl {b : Bool} {k : Option SV} : orV (.val (.bl b)) k = if b then some (.val (.bl true)) else k := by cases b <;> rfl
@[simp] theorem notV_bl {b : Bool} : notV (.val (.bl b)) = some (.val (.bl (!b))) := id rfl
@[simp] theorem evE_and {a b : E} : evE fn (.and a b) ρ = (evE fn a ρ).bind fun r => andV r (evE fn b ρ) := by rw [evE]; rfl
@[simp] theorem evE_or {a b : E} : evE fn (.or a b) ρ = (evE fn a ρ).bind fun r => orV r (evE fn b ρ) := by rw [evE]; rfl
@[simp] theorem evE_not {a : E} : evE fn (.not a) ρ = (evE fn a ρ).bind notV := by rw [evE]; rfl
@[simp] theorem evE_chain {p q : Prim} {a b c : E} : evE fn (.chain p q a b c) ρ = (evE fn a ρ).bind fun x => (evE fn b ρ).bind fun y => (primD p [seeD x, seeD y]).bind fun z => andV z ((evE fn c ρ).bind fun w => primD q [seeD y, seeD w]) := by rw [evE]; rfl
@[simp] theorem evE_ite {c a b : E} : evE fn (.ite c a b) ρ = (evT fn c ρ).bind fun k => if k then evE fn a ρ else evE fn b ρ := by rw [evE]
@[simp] theorem evE_call {f : Nat} {es : Es} : evE fn (.call f es) ρ = (evEs fn es ρ).bind fun rs => callR rs (fn f (rs.map seeD)) := by rw [evE]
theorem evE_comp {g : Bool} {src : Es} {cond elt : E} : evE fn (.comp g src cond elt) ρ = (evEs fn src ρ).bind fun rs => (itemsOf g rs).bind fun ds =>
    if ds.length ≤ line then (compL (fun d => evT fn cond (some (.val d) :: ρ)) (fun d => evE fn elt (some (.val d) :: ρ)) ds).map fun l => .obj true (.lst l) else none := by rw [evE]
@[simp] theorem evE_dnew {t : Bool} : evE fn (.dnew t) ρ = some (.obj true (.dct t [] [])) := by rw [evE]
@[simp] theorem evE_done {t : Bool} {k v : E} : evE fn (.done t k v) ρ = (evE fn k ρ).bind fun x => (evE fn v ρ).bind fun y => (toD x).bind fun a => (toD y).bind fun b => if isKey t a then some (.obj true (.dct t [a] [b])) else none := by rw [evE]
theorem evT_comp {g : Bool} {src : Es} {cond elt : E} : evT fn (.comp g src cond elt) ρ = (evE fn (.comp g src cond elt) ρ).bind truth := by
  rw [evT, evE]
  cases evEs fn src ρ with
  | none => rfl
  | some rs =>
    simp only [Option.bind_some]
    cases itemsOf g rs with
    | none => rfl
    | some ds =>
      simp only [Option.bind_some]
      split
      · cases compL (fun d => evT fn cond (some (.val d) :: ρ)) (fun d => evE fn elt (some (.val d) :: ρ)) ds <;> rfl
      · rfl
@[simp] theorem evEs_nil : evEs fn .nil ρ = some [] := by rw [evEs]
@[simp] theorem evEs_cons {e : E} {es : Es} : evEs fn (.cons e es) ρ = (evE fn e ρ).bind fun r => (evEs fn es ρ).map (r :: ·) := by rw [evEs]
@[simp] theorem evT_and {a b : E} : evT fn (.and a b) ρ = (evT fn a ρ).bind fun k => if k then evT fn b ρ else some false := by rw [evT]
@[simp] theorem evT_or {a b : E} : evT fn (.or a b) ρ = (evT fn a ρ).bind fun k => if k then some true else evT fn b ρ := by rw [evT]
@[simp] theorem evT_not {a : E} : evT fn (.not a) ρ = (evT fn a ρ).map (!·) := by rw [evT]
@[simp] theorem evT_int {i : Int} : evT fn (.int i) ρ = some (i != 0) := by rw [evT]
@[simp] theorem evT_bl {i : Bool} : evT fn (.bl i) ρ = some i := by rw [evT]
@[simp] theorem evT_var {i : Nat} : evT fn (.var i) ρ = (look ρ i).bind truth := by rw [evT]
@[simp] theorem evT_prim {p : Prim} {es : Es} : evT fn (.prim p es) ρ = (evEs fn es ρ).bind fun rs => (primD p (rs.map seeD)).bind truth := by rw [evT]
@[simp] theorem evT_call {f : Nat} {es : Es} : evT fn (.call f es) ρ = (evEs fn es ρ).bind fun rs => (callR rs (fn f (rs.map seeD))).bind truth := by rw [evT]
def andT (r : SV) (k : Option Bool) : Option Bool := match r with
  | .val (.bl true) => k
  | .val (.bl false) => some false
  | _ => none
@[simp] theorem andT_bl {b : Bool} {k : Option Bool} : andT (.val (.bl b)) k = if b then k else some false := by cases b <;> rfl
@[simp] theorem evT_chain {p q : Prim} {a b c : E} : evT fn (.chain p q a b c) ρ = (evE fn a ρ).bind fun x => (evE fn b ρ).bind fun y => (primD p [seeD x, seeD y]).bind fun z => andT z ((evE fn c ρ).bind fun w => (primD q [seeD y, seeD w]).bind truth) := by rw [evT]; rfl
@[simp] theorem exS_expr {e : E} : exS fa fuel (.expr e) ρ = (evE (prj fa) e ρ).map fun _ => (.nx, ρ) := by rw [exS]
@[simp] theorem exS_asg {i : Nat} {e : E} : exS fa fuel (.asg i e) ρ = (evE (prj fa) e ρ).bind fun r => if r.lent || !free ρ i then none else some (.nx, ρ.set i (some r)) := by rw [exS]
def freeS : Option (Option SV) → Bool
  | some (some (.io _)) => false
  | _ => true
@[simp] theorem free_eq {i : Nat} : free ρ i = freeS ρ[i]? := by
  unfold free freeS
  rcases h : ρ[i]? with _ | _ | (d | ⟨o, d⟩ | d) <;> rfl
@[simp] theorem freeS_none : freeS none = true := id rfl
@[simp] theorem freeS_no : freeS (some none) = true := id rfl
@[simp] theorem freeS_val {d : D} : freeS (some (some (.val d))) = true := id rfl
@[simp] theorem freeS_obj {o : Bool} {d : D} : freeS (some (some (.obj o d))) = true := id rfl
def movS (ρ : Env) (i j : Nat) : Option (Option SV) → Option (Fl × Env)
  | some (some (.val d)) => some (.nx, ρ.set i (some (.val d)))
  | some (some (.obj _ d)) => some (.nx, (ρ.set j (some (.val d))).set i (some (.val d)))
  | _ => none
@[simp] theorem movS_val {i j : Nat} {d : D} : movS ρ i j (some (some (.val d))) = some (.nx, ρ.set i (some (.val d))) := id rfl
@[simp] theorem movS_lis {i j : Nat} {o : Bool} {d : D} : movS ρ i j (some (some (.obj o d))) = some (.nx, (ρ.set j (some (.val d))).set i (some (.val d))) := id rfl
@[simp] theorem exS_mov {i j : Nat} : exS fa fuel (.mov i j) ρ = if free ρ i then movS ρ i j ρ[j]? else none := by
  rw [exS]
  rcases h : ρ[j]? with _ | _ | (d | ⟨o, d⟩ | d) <;> rfl
def frzS (ρ : Env) (j : Nat) : Option (Option SV) → Option (List D × Env)
  | some (some (.val d)) => (seqOf d).map fun l => (l, ρ)
  | some (some (.obj _ (.lst ds))) => some (ds, ρ.set j (some (.val (.lst ds))))
  | _ => none
@[simp] theorem frzS_val {j : Nat} {d : D} : frzS ρ j (some (some (.val d))) = (seqOf d).map fun l => (l, ρ) := id rfl
@[simp] theorem frzS_lis {j : Nat} {o : Bool} {ds : List D} : frzS ρ j (some (some (.obj o (.lst ds)))) = some (ds, ρ.set j (some (.val (.lst ds)))) := id rfl
@[simp] theorem freeze_eq {j : Nat} : freeze ρ j = frzS ρ j ρ[j]? := by
  unfold freeze frzS
  rcases h : ρ[j]? with _ | _ | (d | ⟨o, d⟩ | d) <;> rfl
@[simp] theorem seqOf_tup {l : List D} : seqOf (.tup l) = some l := id rfl
@[simp] theorem seqOf_lst {l : List D} : seqOf (.lst l) = some l := id rfl
def appV (ρ : Env) (i : Nat) (x : SV) (r : Option SV) : Option D → Option (Fl × Env)
  | some (.lst ds) => r.bind fun r => (toD r).bind fun d => if ds.length < line then some (.nx, ρ.set i (some (x.put (.lst (ds ++ [d]))))) else none
  | _ => none
def appS (ρ : Env) (i : Nat) (r : Option SV) : Option (Option SV) → Option (Fl × Env)
  | some (some x) => appV ρ i x r x.cell
  | _ => none
@[simp] theorem appS_lis {i : Nat} {r : Option SV} {ds : List D} : appS ρ i r (some (some (.obj true (.lst ds)))) = r.bind fun r => (toD r).bind fun d => if ds.length < line then some (.nx, ρ.set i (some (.obj true (.lst (ds ++ [d]))))) else none := id rfl
@[simp] theorem exS_app {i : Nat} {e : E} : exS fa fuel (.app i e) ρ = appS ρ i (evE (prj fa) e ρ) ρ[i]? := by
  rw [exS]
  rcases h : ρ[i]? with _ | _ | (d | ⟨_ | _, d⟩ | d)
  · rfl
  · rfl
  · rfl
  · rfl
  · cases d <;> rfl
  · cases d <;> rfl
def dsetV (ρ : Env) (i : Nat) (x : SV) (rk rv : Option SV) : Option D → Option (Fl × Env)
  | some (.dct t ks vs) => rv.bind fun r => (toD r).bind fun d => rk.bind fun r => (toD r).bind fun a => if isKey t a && decide (ks.length < line) then some (.nx, ρ.set i (some (x.put (dput t ks vs a d)))) else none
  | _ => none
def dsetS (ρ : Env) (i : Nat) (rk rv : Option SV) : Option (Option SV) → Option (Fl × Env)
  | some (some x) => dsetV ρ i x rk rv x.cell
  | _ => none
@[simp] theorem dsetS_obj {i : Nat} {rk rv : Option SV} {t : Bool} {ks vs : List D} : dsetS ρ i rk rv (some (some (.obj true (.dct t ks vs)))) = rv.bind fun r => (toD r).bind fun d => rk.bind fun r => (toD r).bind fun a => if isKey t a && decide (ks.length < line) then some (.nx, ρ.set i (some (.obj true (dput t ks vs a d)))) else none := id rfl
@[simp] theorem dsetS_io {i : Nat} {rk rv : Option SV} {t : Bool} {ks vs : List D} : dsetS ρ i rk rv (some (some (.io (.dct t ks vs)))) = rv.bind fun r => (toD r).bind fun d => rk.bind fun r => (toD r).bind fun a => if isKey t a && decide (ks.length < line) then some (.nx, ρ.set i (some (.io (dput t ks vs a d)))) else none := id rfl
@[simp] theorem exS_dset {i : Nat} {k v : E} : exS fa fuel (.dset i k v) ρ = dsetS ρ i (evE (prj fa) k ρ) (evE (prj fa) v ρ) ρ[i]? := by
  rw [exS]
  rcases h : ρ[i]? with _ | _ | (d | ⟨_ | _, d⟩ | d)
  · rfl
  · rfl
  · rfl
  · rfl
  · cases d <;> rfl
  · cases d <;> rfl
@[simp] theorem exS_dupd {i j : Nat} : exS fa fuel (.dupd i j) ρ = dupdD ρ i j := by rw [exS]
@[simp] theorem exS_exprM {m : M} : exS fa fuel (.exprM m) ρ = (evM fa m ρ).map fun x => (.nx, x.2) := by rw [exS]
@[simp] theorem exS_asgM {i : Nat} {m : M} : exS fa fuel (.asgM i m) ρ = (evM fa m ρ).bind fun x => if x.1.lent || !free x.2 i then none else some (.nx, x.2.set i (some (.val (seeD x.1)))) := by rw [exS]
@[simp] theorem exS_ifO {c : E} {m : M} {a b : Ss} : exS fa fuel (.ifO c m a b) ρ = (evT (prj fa) c ρ).bind fun k => if k then exSs fa fuel a ρ else (evM fa m ρ).bind fun x => (truth x.1).bind fun k => if k then exSs fa fuel a x.2 else exSs fa fuel b x.2 := by rw [exS]
def callMR (ρ : Env) (xs : List AV) : Ans → Option (SV × Env)
  | .ok r outs => if r.fine && outs.all plainO then (putO ρ xs outs).map fun ρ' => (r, ρ') else none
@[simp] theorem callMR_ok {xs : List AV} {r : SV} {outs : List D} : callMR ρ xs (.ok r outs) = if r.fine && outs.all plainO then (putO ρ xs outs).map fun ρ' => (r, ρ') else none := id rfl
@[simp] theorem evM_call {f : Nat} {ma : MA} : evM fa (.call f ma) ρ = (evMA (prj fa) ma ρ).bind fun xs => (fa f (xs.map seeA)).bind (callMR ρ xs) := by rw [evM]; rfl
def opMR (p : Prim) (k : Option (SV × Env)) : SV → Option (SV × Env)
  | .val d => if plain d then k.bind fun y => (primD p [d, seeD y.1]).map fun z => (z, y.2) else none
  | _ => none
@[simp] theorem opMR_val {p : Prim} {k : Option (SV × Env)} {d : D} : opMR p k (.val d) = if plain d then k.bind fun y => (primD p [d, seeD y.1]).map fun z => (z, y.2) else none := id rfl
@[simp] theorem evM_op {p : Prim} {a : E} {m : M} : evM fa (.op p a m) ρ = (evE (prj fa) a ρ).bind (opMR p (evM fa m ρ)) := by rw [evM]; rfl
@[simp] theorem evMA_nil : evMA fn .nil ρ = some [] := by rw [evMA]
@[simp] theorem evMA_e {c : E} {r : MA} : evMA fn (.e c r) ρ = (evE fn c ρ).bind fun x => (avOf x).bind fun a => (evMA fn r ρ).map (a :: ·) := by rw [evMA]
def cellS : Option (Option SV) → Option D
  | some (some x) => x.cell
  | _ => none
@[simp] theorem cellAtS_eq {i : Nat} : cellAtS ρ i = cellS ρ[i]? := by
  unfold cellAtS cellS
  rcases h : ρ[i]? with _ | _ | (d | ⟨_ | _, d⟩ | d) <;> rfl
@[simp] theorem cellS_obj {d : D} : cellS (some (some (.obj true d))) = some d := id rfl
@[simp] theorem cellS_io {d : D} : cellS (some (some (.io d))) = some d := id rfl
@[simp] theorem evMA_s {i : Nat} {r : MA} : evMA fn (.s i r) ρ = (cellAtS ρ i).bind fun d => if isDct d then (evMA fn r ρ).map (.s i d :: ·) else none := by rw [evMA]
@[simp] theorem evMA_n {t : Bool} {r : MA} : evMA fn (.n t r) ρ = (evMA fn r ρ).map (.n t :: ·) := by rw [evMA]
@[simp] theorem putO_nil : putO ρ [] [] = some ρ := id rfl
@[simp] theorem putO_s {i : Nat} {d d' : D} {r : List AV} {ds : List D} : putO ρ (.s i d :: r) (d' :: ds) = putO (putS ρ i d') r ds := by rw [putO]
@[simp] theorem putO_n {t : Bool} {d' : D} {r : List AV} {ds : List D} : putO ρ (.n t :: r) (d' :: ds) = putO ρ r ds := by rw [putO]
@[simp] theorem putO_e {d : D} {r : List AV} {ds : List D} : putO ρ (.e d :: r) ds = putO ρ r ds := by rw [putO]
@[simp] theorem putO_l {d : List D} {r : List AV} {ds : List D} : putO ρ (.l d :: r) ds = putO ρ r ds := by rw [putO]
def putSS (ρ : Env) (i : Nat) (d : D) : Option (Option SV) → Env
  | some (some x) => ρ.set i (some (x.put d))
  | _ => ρ
@[simp] theorem putS_eq {i : Nat} {d : D} : putS ρ i d = putSS ρ i d ρ[i]? := by
  unfold putS putSS
  rcases h : ρ[i]? with _ | _ | (d | ⟨_ | _, d⟩ | d) <;> rfl
@[simp] theorem putSS_obj {i : Nat} {d d0 : D} : putSS ρ i d (some (some (.obj true d0))) = ρ.set i (some (.obj true d)) := id rfl
@[simp] theorem putSS_io {i : Nat} {d d0 : D} : putSS ρ i d (some (some (.io d0))) = ρ.set i (some (.io d)) := id rfl
@[simp] theorem seeA_e {d : D} : seeA (.e d) = d := id rfl
@[simp] theorem seeA_l {d : List D} : seeA (.l d) = .lst d := id rfl
@[simp] theorem seeA_s {i : Nat} {d : D} : seeA (.s i d) = d := id rfl
@[simp] theorem seeA_n {t : Bool} : seeA (.n t) = .dct t [] [] := id rfl
@[simp] theorem avOf_tup {l : List D} : avOf (.val (.tup l)) = if plain (.tup l) then some (.e (.tup l)) else none := id rfl
@[simp] theorem avOf_int {i : Int} : avOf (.val (.int i)) = some (.e (.int i)) := by simp [avOf, plain]
@[simp] theorem avOf_bl {i : Bool} : avOf (.val (.bl i)) = some (.e (.bl i)) := by simp [avOf, plain]
@[simp] theorem avOf_lst {l : List D} : avOf (.val (.lst l)) = if plains l then some (.l l) else none := id rfl
@[simp] theorem avOf_obj {o : Bool} {l : List D} : avOf (.obj o (.lst l)) = if plains l then some (.l l) else none := id rfl
@[simp] theorem isDct_dct {t : Bool} {ks vs : List D} : isDct (.dct t ks vs) = plains vs := id rfl
@[simp] theorem plainO_dct {t : Bool} {ks vs : List D} : plainO (.dct t ks vs) = plains vs := id rfl
@[simp] theorem plainO_lst {vs : List D} : plainO (.lst vs) = plains vs := id rfl
@[simp] theorem fine_val {d : D} : SV.fine (.val d) = plain d := id rfl
@[simp] theorem fine_obj {d : D} : SV.fine (.obj true d) = plainO d := id rfl
@[simp] theorem exS_ret {e : E} : exS fa fuel (.ret e) ρ = (evE (prj fa) e ρ).bind fun r => if r.lent then none else some (.rt r, ρ) := by rw [exS]
def retS (ρ : Env) (i : Nat) : Option (Option SV) → Option (Fl × Env)
  | some (some (.val d)) => some (.rt (.val d), ρ)
  | some (some (.obj _ d)) => some (.rt (.obj true d), ρ.set i none)
  | _ => none
@[simp] theorem retS_val {i : Nat} {d : D} : retS ρ i (some (some (.val d))) = some (.rt (.val d), ρ) := id rfl
@[simp] theorem retS_lis {i : Nat} {o : Bool} {d : D} : retS ρ i (some (some (.obj o d))) = some (.rt (.obj true d), ρ.set i none) := id rfl
@[simp] theorem exS_retV {i : Nat} : exS fa fuel (.retV i) ρ = retS ρ i ρ[i]? := by
  rw [exS]
  rcases h : ρ[i]? with _ | _ | (d | ⟨o, d⟩ | d) <;> rfl
@[simp] theorem exS_retN : exS fa fuel .retN ρ = some (.rt (.val .non), ρ) := by rw [exS]
@[simp] theorem exS_ifs {c : E} {a b : Ss} : exS fa fuel (.ifs c a b) ρ = (evT (prj fa) c ρ).bind fun k => if k then exSs fa fuel a ρ else exSs fa fuel b ρ := by rw [exS]
theorem exS_for {i : Nat} {g : Bool} {src : Es} {body : Ss} : exS fa fuel (.for_ i g src body) ρ = (evEs (prj fa) src ρ).bind fun rs => if rs.any SV.lent || !free ρ i then none else (itemsOf g rs).bind fun ds => forL i (exSs fa fuel body) ds ρ := by rw [exS]
theorem exS_forV {i j : Nat} {body : Ss} : exS fa fuel (.forV i j body) ρ = if free ρ i then (freeze ρ j).bind fun x => forL i (exSs fa fuel body) x.1 x.2 else none := by rw [exS]
theorem exS_while {c : E} {body : Ss} : exS fa fuel (.while_ c body) ρ = whileL (evT (prj fa) c) (exSs fa fuel body) fuel ρ := by rw [exS]
def frz1S (ρ : Env) (j : Nat) : Option (Option SV) → Env
  | some (some (.obj true d)) => ρ.set j (some (.val d))
  | _ => ρ
@[simp] theorem frz1_eq {j : Nat} : frz1 ρ j = frz1S ρ j ρ[j]? := by
  unfold frz1 frz1S
  rcases h : ρ[j]? with _ | _ | (d | ⟨_ | _, d⟩ | d) <;> rfl
@[simp] theorem frz1S_val {j : Nat} {d : D} : frz1S ρ j (some (some (.val d))) = ρ := id rfl
@[simp] theorem frz1S_obj {j : Nat} {d : D} : frz1S ρ j (some (some (.obj true d))) = ρ.set j (some (.val d)) := id rfl
@[simp] theorem exS_frz {js : List Nat} {s : S} : exS fa fuel (.frz js s) ρ = exS fa fuel s (js.foldl frz1 ρ) := by rw [exS]
@[simp] theorem exS_brk : exS fa fuel .brk ρ = some (.br, ρ) := by rw [exS]
@[simp] theorem exS_cnt : exS fa fuel .cnt ρ = some (.ct, ρ) := by rw [exS]
@[simp] theorem exS_pass : exS fa fuel .pass ρ = some (.nx, ρ) := by rw [exS]
@[simp] theorem exS_stop : exS fa fuel .stop ρ = none := by rw [exS]
@[simp] theorem exSs_nil : exSs fa fuel .nil ρ = some (.nx, ρ) := by rw [exSs]
def andThen (x : Fl × Env) (k : Env → Option (Fl × Env)) : Option (Fl × Env) := match x.1 with
  | .nx => k x.2
  | _ => some x
@[simp] theorem andThen_nx {ρ : Env} {k : Env → Option (Fl × Env)} : andThen (.nx, ρ) k = k ρ := id rfl
@[simp] theorem andThen_br {ρ : Env} {k : Env → Option (Fl × Env)} : andThen (.br, ρ) k = some (.br, ρ) := id rfl
@[simp] theorem andThen_ct {ρ : Env} {k : Env → Option (Fl × Env)} : andThen (.ct, ρ) k = some (.ct, ρ) := id rfl
@[simp] theorem andThen_rt {ρ : Env} {r : SV} {k : Env → Option (Fl × Env)} : andThen (.rt r, ρ) k = some (.rt r, ρ) := id rfl
@[simp] theorem exSs_cons {s : S} {ss : Ss} : exSs fa fuel (.cons s ss) ρ = (exS fa fuel s ρ).bind fun x => andThen x (exSs fa fuel ss) := by
  rw [exSs]; rfl
def endOf : Option (Fl × Env) → Option SV
  | some (.rt r, _) => some r
  | some (.nx, _) => some (.val .non)
  | _ => none
@[simp] theorem endOf_rt {r : SV} {ρ : Env} : endOf (some (.rt r, ρ)) = some r := id rfl
@[simp] theorem endOf_nx {ρ : Env} : endOf (some (.nx, ρ)) = some (.val .non) := id rfl
@[simp] theorem endOf_none : endOf none = none := id rfl
@[simp] theorem endOf_ite {c : Prop} [Decidable c] {a b : Option (Fl × Env)} : endOf (if c then a else b) = if c then endOf a else endOf b := by split <;> rfl
end
def lookS : Option (Option SV) → Option SV
  | some (some (.val d)) => some (.val d)
  | some (some (.obj _ d)) => some (.obj false d)
  | some (some (.io d)) => some (.obj false d)
  | _ => none
@[simp] theorem look_eq {ρ : Env} {i : Nat} : look ρ i = lookS ρ[i]? := by
  unfold look lookS
  rcases h : ρ[i]? with _ | _ | (d | ⟨o, d⟩ | d) <;> rfl
@[simp] theorem lookS_val {d : D} : lookS (some (some (.val d))) = some (.val d) := id rfl
@[simp] theorem lookS_lis {o : Bool} {d : D} : lookS (some (some (.obj o d))) = some (.obj false d) := id rfl
@[simp] theorem lookS_io {d : D} : lookS (some (some (.io d))) = some (.obj false d) := id rfl
@[simp] theorem lookS_none : lookS (some none) = none := id rfl
@[simp] theorem seeD_val {d : D} : seeD (.val d) = d := id rfl
@[simp] theorem seeD_lis {o : Bool} {d : D} : seeD (.obj o d) = d := id rfl
@[simp] theorem toD_val {d : D} : toD (.val d) = some d := id rfl
@[simp] theorem toD_lis {d : D} : toD (.obj true d) = some d := id rfl
@[simp] theorem toDs_nil : toDs [] = some [] := id rfl
@[simp] theorem toDs_cons {r : SV} {rs : List SV} : toDs (r :: rs) = (toD r).bind fun d => (toDs rs).map (d :: ·) := id rfl
@[simp] theorem lent_val {d : D} : SV.lent (.val d) = false := id rfl
@[simp] theorem lent_own {d : D} : SV.lent (.obj true d) = false := id rfl
@[simp] theorem lent_see {d : D} : SV.lent (.obj false d) = true := id rfl
@[simp] theorem okInt_eq {i : Int} : okInt i = some (.val (.int i)) := id rfl
@[simp] theorem okBl_eq {i : Bool} : okBl i = some (.val (.bl i)) := id rfl
@[simp] theorem truth_bl {b : Bool} : truth (.val (.bl b)) = some b := id rfl
@[simp] theorem truth_int {i : Int} : truth (.val (.int i)) = some (i != 0) := id rfl
@[simp] theorem truth_non : truth (.val .non) = some false := id rfl
@[simp] theorem truth_tup {l : List D} : truth (.val (.tup l)) = some (!l.isEmpty) := id rfl
@[simp] theorem truth_lst {l : List D} : truth (.val (.lst l)) = some (!l.isEmpty) := id rfl
@[simp] theorem truth_lis {o : Bool} {l : List D} : truth (.obj o (.lst l)) = some (!l.isEmpty) := id rfl
theorem callR_own {rs : List SV} {r : Option SV} (h : rs.any SV.lent = false) : callR rs r = r := by
  unfold callR; rw [h]; cases r <;> rfl
theorem callR_plain {rs : List SV} {x : SV} (h : x.plain = true) : callR rs (some x) = some x := by
  unfold callR; simp [h]
@[simp] theorem callR_nolent {rs : List SV} {x : Option SV} (h : rs.any SV.lent = false) : callR rs x = x := callR_own h
@[simp] theorem callR_pl {rs : List SV} {x : SV} (h : x.plain = true) : callR rs (some x) = some x := callR_plain h
@[simp] theorem plainS_val {d : D} : SV.plain (.val d) = plain d := id rfl
@[simp] theorem plainS_lis {o : Bool} {d : D} : SV.plain (.obj o d) = plainO d := id rfl
@[simp] theorem plain_int {i : Int} : plain (.int i) = true := by simp [plain]
@[simp] theorem plain_bl {i : Bool} : plain (.bl i) = true := by simp [plain]
@[simp] theorem plain_non : plain .non = true := by simp [plain]
@[simp] theorem plain_str {i : Str} : plain (.str i) = true := by simp [plain]
@[simp] theorem plain_tup {l : List D} : plain (.tup l) = plains l := by rw [plain]
@[simp] theorem plain_lst {l : List D} : plain (.lst l) = false := by rw [plain]
@[simp] theorem plain_dct {t : Bool} {a b : List D} : plain (.dct t a b) = false := by rw [plain]
@[simp] theorem plains_nil : plains [] = true := by rw [plains]
@[simp] theorem plains_cons {x : D} {xs : List D} : plains (x :: xs) = (plain x && plains xs) := by rw [plains]
@[simp] theorem prj_callA {P : Nat → Option Fn} {fuel n : Nat} : prj (callA P fuel n) = callN P fuel n := id rfl
theorem args0_nil : ∀ (k : Nat) (ds : List D), args0 [] k ds = ds.map fun d => some (.val d)
  | _, [] => rfl
  | k, d :: r => by simp [args0, args0_nil (k + 1) r]
theorem prj_end (x : Option (Fl × Env)) : (match endA [] x with | some (.ok r []) => some r | _ => none) = endOf x := by
  rcases x with _ | ⟨_ | _ | _ | r, ρ⟩ <;> rfl
theorem callN_succ {P : Nat → Option Fn} {fuel n i : Nat} {F : Fn} {ds : List D} (h : P i = some F) (hl : ds.length = F.np) (hio : F.io = []) :
    callN P fuel (n + 1) i ds = endOf (exSs (callA P fuel n) fuel F.body (ds.map (fun d => some (.val d)) ++ List.replicate (F.nl - F.np) none)) := by
  unfold callN prj
  rw [callA, h]
  simp only [Option.bind_some, if_pos hl, hio, args0_nil]
  exact prj_end _
/-! the operations -/
@[simp] theorem p_add {a b : Int} : primD .add [.int a, .int b] = some (.val (.int (a + b))) := id rfl
theorem p_addL {a b : List D} (h : a.length + b.length ≤ line) : primD .add [.lst a, .lst b] = some (.obj true (.lst (a ++ b))) := by simp only [primD, pAdd, if_pos h]
@[simp] theorem p_sub {a b : Int} : primD .sub [.int a, .int b] = some (.val (.int (a - b))) := id rfl
theorem p_mulR {a b : Int} (h : -(2 ^ 64) < b ∧ b < 2 ^ 64) : primD .mul [.int a, .int b] = some (.val (.int (a * b))) := by simp only [primD, pMul, if_pos (Or.inr h : (-(2 ^ 64) < a ∧ a < 2 ^ 64) ∨ _), okInt]
theorem p_mod {a b : Int} (h : 0 < b) : primD .mod [.int a, .int b] = some (.val (.int (a % b))) := by simp only [primD, pMod, if_pos h, okInt]
@[simp] theorem p_neg {a : Int} : primD .neg [.int a] = some (.val (.int (-a))) := id rfl
theorem p_eq {a b : D} (h : shal 8 a = true) (h' : shal 8 b = true) : primD .eq [a, b] = some (.val (.bl (eqD a b))) := by simp [primD, pEq, h, h']
theorem p_ne {a b : D} (h : shal 8 a = true) (h' : shal 8 b = true) : primD .ne [a, b] = some (.val (.bl (!eqD a b))) := by simp [primD, pNe, h, h']
@[simp] theorem p_eqI {a b : Int} : primD .eq [.int a, .int b] = some (.val (.bl (a == b))) := by rw [p_eq rfl rfl, eqD]
@[simp] theorem p_neI {a b : Int} : primD .ne [.int a, .int b] = some (.val (.bl (a != b))) := by rw [p_ne rfl rfl, eqD]; rfl
@[simp] theorem p_lt {a b : Int} : primD .lt [.int a, .int b] = some (.val (.bl (decide (a < b)))) := id rfl
@[simp] theorem p_le {a b : Int} : primD .le [.int a, .int b] = some (.val (.bl (decide (a ≤ b)))) := id rfl
@[simp] theorem p_gt {a b : Int} : primD .gt [.int a, .int b] = some (.val (.bl (decide (b < a)))) := id rfl
@[simp] theorem p_ge {a b : Int} : primD .ge [.int a, .int b] = some (.val (.bl (decide (b ≤ a)))) := id rfl
@[simp] theorem p_isN {d : D} : primD .isN [d] = some (.val (.bl (isNon d))) := id rfl
@[simp] theorem p_notN {d : D} : primD .notN [d] = some (.val (.bl (!isNon d))) := id rfl
@[simp] theorem p_lenT {l : List D} : primD .len [.tup l] = some (.val (.int l.length)) := id rfl
@[simp] theorem p_lenL {l : List D} : primD .len [.lst l] = some (.val (.int l.length)) := id rfl
@[simp] theorem p_abs {i : Int} : primD .abs [.int i] = some (.val (.int (if i < 0 then -i else i))) := id rfl
@[simp] theorem p_min2 {i j : Int} : primD .min2 [.int i, .int j] = some (.val (.int (if j < i then j else i))) := id rfl
@[simp] theorem p_max2 {i j : Int} : primD .max2 [.int i, .int j] = some (.val (.int (if j > i then j else i))) := id rfl
@[simp] theorem p_intOfB {b : Bool} : primD .intOf [.bl b] = some (.val (.int (if b then 1 else 0))) := id rfl
@[simp] theorem p_intOfI {b : Int} : primD .intOf [.int b] = some (.val (.int b)) := id rfl
@[simp] theorem p_toListT {l : List D} : primD .toList [.tup l] = some (.obj true (.lst l)) := id rfl
@[simp] theorem p_toListL {l : List D} : primD .toList [.lst l] = some (.obj true (.lst l)) := id rfl
@[simp] theorem p_toTupT {l : List D} : primD .toTup [.tup l] = some (.val (.tup l)) := id rfl
@[simp] theorem p_toTupL {l : List D} : primD .toTup [.lst l] = some (.val (.tup l)) := id rfl
@[simp] theorem p_inst {t : Ty} {d : D} : primD (.inst t) [d] = some (.val (.bl (hasTy t d))) := id rfl
theorem p_idxT {l : List D} {i : Int} : primD .idx [.tup l, .int i] = (atI l i).map .val := rfl
theorem p_idxL {l : List D} {i : Int} : primD .idx [.lst l, .int i] = (atI l i).map .val := rfl
theorem atI_nat {α : Type} {l : List α} {k : Nat} (h : k < l.length) : atI l (k : Int) = some l[k] := by
  unfold atI ixN
  rw [if_pos (by omega), if_pos (by omega)]
  simp [h]
@[simp] theorem p_idx2_0 {a b : D} : primD .idx [.tup [a, b], .int 0] = some (.val a) := id rfl
@[simp] theorem p_idx2_1 {a b : D} : primD .idx [.tup [a, b], .int 1] = some (.val b) := id rfl
@[simp] theorem hasTy_bb {b : Bool} : hasTy .bool (.bl b) = true := id rfl
@[simp] theorem hasTy_bi {b : Int} : hasTy .bool (.int b) = false := id rfl
@[simp] theorem hasTy_ii {b : Int} : hasTy .int (.int b) = true := id rfl
@[simp] theorem hasTy_tt {l : List D} : hasTy .tuple (.tup l) = true := id rfl
@[simp] theorem hasTy_ll {l : List D} : hasTy .list (.lst l) = true := id rfl
@[simp] theorem isNon_non : isNon .non = true := id rfl
@[simp] theorem isNon_int {i : Int} : isNon (.int i) = false := id rfl
@[simp] theorem isNon_tup {l : List D} : isNon (.tup l) = false := id rfl
@[simp] theorem isNon_lst {l : List D} : isNon (.lst l) = false := id rfl
/-! comprehensions and loops -/
/-- over data that a function makes of some type -/
theorem compL_map {α : Type} {f : α → D} {test : D → Option Bool} {elt : D → Option SV} {t : α → Bool} {e : α → D} : ∀ {xs : List α}, (∀ x ∈ xs, test (f x) = some (t x)) → (∀ x ∈ xs, t x = true → (elt (f x)).bind toD = some (e x)) →
    compL test elt (xs.map f) = some ((xs.filter t).map e)
  | [], _, _ => rfl
  | d :: r, h1, h2 => by
    have ih := compL_map (xs := r) (fun x hx => h1 x (List.mem_cons_of_mem _ hx)) (fun x hx => h2 x (List.mem_cons_of_mem _ hx))
    rw [List.map_cons, compL, h1 d List.mem_cons_self]
    simp only [Option.bind_some]
    cases ht : t d with
    | false => simp [ih, ht]
    | true =>
      have h3 := h2 d List.mem_cons_self ht
      rw [Option.bind_eq_some_iff] at h3
      obtain ⟨x, e1, e2⟩ := h3
      simp [ih, ht, e1, e2]
theorem comp_rule {fn : Nat → List D → Option SV} {ρ : Env} {g : Bool} {src : Es} {cond elt : E} {rs : List SV} {α : Type} {f : α → D} {xs : List α} (t : α → Bool) (e : α → D) (h : evEs fn src ρ = some rs) (hi : itemsOf g rs = some (xs.map f)) (hl : xs.length ≤ line)
    (ht : ∀ x ∈ xs, evT fn cond (some (.val (f x)) :: ρ) = some (t x)) (he : ∀ x ∈ xs, t x = true → (evE fn elt (some (.val (f x)) :: ρ)).bind toD = some (e x)) :
    evE fn (.comp g src cond elt) ρ = some (.obj true (.lst ((xs.filter t).map e))) := by
  rw [evE_comp, h]
  simp only [Option.bind_some, hi, List.length_map, if_pos hl]
  rw [compL_map ht he]; rfl
/-- without a test -/
theorem comp_rule0 {fn : Nat → List D → Option SV} {ρ : Env} {g : Bool} {src : Es} {elt : E} {rs : List SV} {α : Type} {f : α → D} {xs : List α} (e : α → D) (h : evEs fn src ρ = some rs) (hi : itemsOf g rs = some (xs.map f)) (hl : xs.length ≤ line)
    (he : ∀ x ∈ xs, (evE fn elt (some (.val (f x)) :: ρ)).bind toD = some (e x)) :
    evE fn (.comp g src (.bl true) elt) ρ = some (.obj true (.lst (xs.map e))) := by
  have := comp_rule (fun _ => true) e h hi hl (fun _ _ => evT_bl) (fun x hx _ => he x hx)
  have e2 : xs.filter (fun _ => true) = xs := List.filter_eq_self.mpr fun _ _ => rfl
  rwa [e2] at this
theorem forL_inv {i : Nat} {body : Env → Option (Fl × Env)} (I : List D → Env → Prop) {ds : List D} : ∀ {post pre : List D} {ρ : Env}, ds = pre ++ post → I pre ρ →
    (∀ pre d post ρ, ds = pre ++ d :: post → I pre ρ → ∃ fl ρ', body (ρ.set i (some (.val d))) = some (fl, ρ') ∧ (fl = .nx ∨ fl = .ct) ∧ I (pre ++ [d]) ρ') →
    ∃ ρ', forL i body post ρ = some (.nx, ρ') ∧ I ds ρ'
  | [], pre, ρ, e, h, _ => ⟨ρ, rfl, by rw [e]; simpa using h⟩
  | d :: post, pre, ρ, e, h, st => by
    obtain ⟨fl, ρ1, e1, e2, h1⟩ := st pre d post ρ e h
    obtain ⟨ρ', e3, h3⟩ := forL_inv I (ds := ds) (post := post) (pre := pre ++ [d]) (ρ := ρ1) (by simp [e]) h1 st
    refine ⟨ρ', ?_, h3⟩
    rw [forL, e1]
    simp only [Option.bind_some]
    rcases e2 with rfl | rfl <;> exact e3
/-- by the number of items walked -/
theorem forL_idx {i : Nat} {body : Env → Option (Fl × Env)} (I : Nat → Env → Prop) {ds : List D} {ρ : Env} (h0 : I 0 ρ)
    (st : ∀ k ρ (hk : k < ds.length), I k ρ → ∃ fl ρ', body (ρ.set i (some (.val ds[k]))) = some (fl, ρ') ∧ (fl = .nx ∨ fl = .ct) ∧ I (k + 1) ρ') :
    ∃ ρ', forL i body ds ρ = some (.nx, ρ') ∧ I ds.length ρ' := by
  refine forL_inv (fun pre ρ => I pre.length ρ) (ds := ds) (post := ds) (pre := []) rfl h0 fun pre d post ρ e h => ?_
  subst e
  have hk : pre.length < (pre ++ d :: post).length := by simp
  obtain ⟨fl, ρ', h1, h2, h3⟩ := st pre.length ρ hk h
  refine ⟨fl, ρ', ?_, h2, by simpa using h3⟩
  rw [← h1]; simp
theorem forL_map {i : Nat} {body : Env → Option (Fl × Env)} {α : Type} {f : α → D} {xs : List α} (I : Nat → Env → Prop) {ρ : Env} (h0 : I 0 ρ)
    (st : ∀ k ρ (hk : k < xs.length), I k ρ → ∃ fl ρ', body (ρ.set i (some (.val (f xs[k])))) = some (fl, ρ') ∧ (fl = .nx ∨ fl = .ct) ∧ I (k + 1) ρ') :
    ∃ ρ', forL i body (xs.map f) ρ = some (.nx, ρ') ∧ I xs.length ρ' := by
  have := forL_idx (i := i) (body := body) I (ds := xs.map f) (ρ := ρ) h0 fun k ρ hk h => by
    obtain ⟨fl, ρ', h1, h2⟩ := st k ρ (by simpa using hk) h
    exact ⟨fl, ρ', by rw [List.getElem_map]; exact h1, h2⟩
  simpa using this
theorem forL_rng {i : Nat} {body : Env → Option (Fl × Env)} (I : Nat → Env → Prop) {a : Int} {m : Nat} {ρ : Env} (h0 : I 0 ρ)
    (st : ∀ k ρ, k < m → I k ρ → ∃ fl ρ', body (ρ.set i (some (.val (.int (a + (k : Int)))))) = some (fl, ρ') ∧ (fl = .nx ∨ fl = .ct) ∧ I (k + 1) ρ') :
    ∃ ρ', forL i body ((List.range m).map fun (k : Nat) => D.int (a + (k : Int))) ρ = some (.nx, ρ') ∧ I m ρ' := by
  have := forL_map (i := i) (body := body) (f := fun (k : Nat) => D.int (a + (k : Int))) (xs := List.range m) I (ρ := ρ) h0 fun k ρ hk h => by
    obtain ⟨fl, ρ', h1, h2⟩ := st k ρ (by simpa using hk) h
    exact ⟨fl, ρ', by rw [List.getElem_range]; exact h1, h2⟩
  simpa using this
theorem whileL_inv {test : Env → Option Bool} {body : Env → Option (Fl × Env)} (I : Nat → Env → Prop) (J : Env → Prop) : ∀ {m n : Nat} {ρ : Env}, m < n → I m ρ →
    (∀ m ρ, I m ρ → (test ρ = some false ∧ J ρ) ∨ (test ρ = some true ∧ ∃ fl ρ' m', body ρ = some (fl, ρ') ∧ (fl = .nx ∨ fl = .ct) ∧ m' < m ∧ I m' ρ')) →
    ∃ ρ', whileL test body n ρ = some (.nx, ρ') ∧ J ρ'
  | m, 0, ρ, hn, _, _ => by omega
  | m, n + 1, ρ, hn, h, st => by
    rcases st m ρ h with ⟨e, j⟩ | ⟨e, fl, ρ1, m', e1, e2, hm, h1⟩
    · exact ⟨ρ, by rw [whileL, e]; rfl, j⟩
    · obtain ⟨ρ', e3, j⟩ := whileL_inv I J (m := m') (n := n) (ρ := ρ1) (by omega) h1 st
      refine ⟨ρ', ?_, j⟩
      rw [whileL, e]
      simp only [Option.bind_some, if_true, e1]
      rcases e2 with rfl | rfl <;> exact e3
end L2.LW
namespace LK
open L2.LW
def ir0 : Ss := (.cons (.ifs (.or (.prim (.inst .bool) (.cons (.var 0) .nil)) (.not (.prim (.inst .int) (.cons (.var 0) .nil)))) (.cons (.ret (.bl false))
    .nil) .nil)
    (.cons (.ret (.chain .le .le (.var 1) (.var 0) (.var 2)))
    .nil))
def ir1 : Ss := (.cons (.ret (.and (.prim (.inst .tuple) (.cons (.var 0) .nil)) (.prim .eq (.cons (.prim .len (.cons (.var 0) .nil)) (.cons (.int 2) .nil)))))
    .nil)
def ir2 : Ss := (.cons (.ret (.and (.call 1 (.cons (.var 0) .nil)) (.and (.call 0 (.cons (.prim .idx (.cons (.var 0) (.cons (.int 0) .nil))) (.cons (.int 0) (.cons (.int 7) .nil)))) (.call 0 (.cons (.prim .idx (.cons (.var 0) (.cons (.int 1) .nil))) (.cons (.int 0) (.cons (.int 7) .nil)))))))
    .nil)
def ir3 : Ss := (.cons (.ret (.and (.call 1 (.cons (.var 0) .nil)) (.and (.call 0 (.cons (.prim .idx (.cons (.var 0) (.cons (.int 1) .nil))) (.cons (.int 1) (.cons (.int 4) .nil)))) (.call 0 (.cons (.prim .idx (.cons (.var 0) (.cons (.int 0) .nil))) (.cons (.int 0) (.cons (.prim .idx (.cons (.var 0) (.cons (.int 1) .nil))) .nil)))))))
    .nil)
def ir4 : Ss := (.cons (.ret (.prim .all (.cons (.comp true (.cons (.int 1) (.cons (.prim .len (.cons (.var 0) .nil)) .nil)) (.bl true) (.prim .lt (.cons (.prim .idx (.cons (.var 1) (.cons (.prim .sub (.cons (.var 0) (.cons (.int 1) .nil))) .nil))) (.cons (.prim .idx (.cons (.var 1) (.cons (.var 0) .nil))) .nil)))) .nil)))
    .nil)
def ir5 : Ss := (.cons (.ifs (.or (.not (.prim (.inst .tuple) (.cons (.var 0) .nil))) (.not (.chain .le .le (.int 1) (.prim .len (.cons (.var 0) .nil)) (.int 24)))) (.cons (.ret (.bl false))
    .nil) .nil)
    (.cons (.ret (.and (.prim .all (.cons (.comp false (.cons (.var 0) .nil) (.bl true) (.call 2 (.cons (.var 0) .nil))) .nil)) (.call 4 (.cons (.var 0) .nil))))
    .nil))
def ir6 : Ss := (.cons (.ifs (.not (.call 5 (.cons (.var 0) .nil))) (.cons .stop
    .nil) .nil)
    (.cons (.retV 0)
    .nil))
def ir7 : Ss := (.cons (.ifs (.not (.call 3 (.cons (.var 0) .nil))) (.cons .stop
    .nil) .nil)
    (.cons (.retV 0)
    .nil))
def ir9 : Ss := (.cons (.ret (.tup (.cons (.prim .min2 (.cons (.prim .abs (.cons (.var 0) .nil)) (.cons (.prim .abs (.cons (.var 1) .nil)) .nil))) (.cons (.prim .max2 (.cons (.prim .abs (.cons (.var 0) .nil)) (.cons (.prim .abs (.cons (.var 1) .nil)) .nil))) .nil))))
    .nil)
def ir10 : Ss := (.cons (.ret (.prim .eq (.cons (.call 9 (.cons (.prim .sub (.cons (.prim .idx (.cons (.var 2) (.cons (.int 0) .nil))) (.cons (.prim .idx (.cons (.var 1) (.cons (.int 0) .nil))) .nil))) (.cons (.prim .sub (.cons (.prim .idx (.cons (.var 2) (.cons (.int 1) .nil))) (.cons (.prim .idx (.cons (.var 1) (.cons (.int 1) .nil))) .nil))) .nil))) (.cons (.var 0) .nil))))
    .nil)
def ir11 : Ss := (.cons (.ret (.comp false (.cons (.var 0) .nil) (.call 10 (.cons (.var 2) (.cons (.var 3) (.cons (.var 0) .nil)))) (.var 0)))
    .nil)
def ir13 : Ss := (.cons (.ifs (.prim .lt (.cons (.var 1) (.cons (.prim .len (.cons (.var 0) .nil)) .nil))) (.cons (.ret (.prim .idx (.cons (.var 0) (.cons (.var 1) .nil))))
    .nil) .nil)
    (.cons (.ret (.int 0))
    .nil))
def ir14 : Ss := (.cons (.ret (.prim .mod (.cons (.prim .mod (.cons (.prim .mul (.cons (.var 0) (.cons (.int 48271) .nil))) (.cons (.var 1) .nil))) (.cons (.var 2) .nil))))
    .nil)
def ir15b0 : Ss := (.cons (.asg 12 (.prim .add (.cons (.prim .add (.cons (.call 13 (.cons (.var 0) (.cons (.prim .add (.cons (.prim .add (.cons (.var 1) (.cons (.int 2) .nil))) (.cons (.prim .mod (.cons (.prim .add (.cons (.var 10) (.cons (.prim .mul (.cons (.int 2) (.cons (.var 11) .nil))) .nil))) (.cons (.int 7) .nil))) .nil))) .nil))) (.cons (.prim .mul (.cons (.prim .mul (.cons (.int 31) (.cons (.var 10) .nil))) (.cons (.var 10) .nil))) .nil))) (.cons (.prim .mul (.cons (.prim .mul (.cons (.int 57) (.cons (.var 11) .nil))) (.cons (.var 11) .nil))) .nil))))
    (.cons (.ifs (.or (.prim .eq (.cons (.var 8) (.cons (.int 0) .nil))) (.prim .gt (.cons (.call 14 (.cons (.var 12) (.cons (.int 9931) (.cons (.prim .idx (.cons (.lst (.cons (.int 2) (.cons (.int 4) (.cons (.int 7) .nil)))) (.cons (.prim .sub (.cons (.var 8) (.cons (.int 1) .nil))) .nil))) .nil)))) (.cons (.int 0) .nil)))) (.cons (.app 9 (.tup (.cons (.prim .add (.cons (.var 6) (.cons (.var 10) .nil))) (.cons (.prim .add (.cons (.var 7) (.cons (.var 11) .nil))) .nil))))
    .nil) .nil)
    .nil))
def ir15b1 : Ss := (.cons (.for_ 11 true (.cons (.var 5) .nil) ir15b0)
    .nil)
def ir15 : Ss := (.cons (.asg 3 (.call 13 (.cons (.var 0) (.cons (.var 1) .nil))))
    (.cons (.asg 4 (.prim .add (.cons (.int 1) (.cons (.call 14 (.cons (.var 3) (.cons (.int 9973) (.cons (.int 5) .nil)))) .nil))))
    (.cons (.asg 5 (.prim .add (.cons (.int 1) (.cons (.call 14 (.cons (.var 3) (.cons (.int 9967) (.cons (.int 6) .nil)))) .nil))))
    (.cons (.asg 6 (.call 14 (.cons (.call 13 (.cons (.var 0) (.cons (.prim .add (.cons (.var 1) (.cons (.int 1) .nil))) .nil))) (.cons (.int 9949) (.cons (.prim .sub (.cons (.int 9) (.cons (.var 4) .nil))) .nil)))))
    (.cons (.asg 7 (.call 14 (.cons (.call 13 (.cons (.var 0) (.cons (.prim .add (.cons (.var 1) (.cons (.int 1) .nil))) .nil))) (.cons (.int 9941) (.cons (.prim .sub (.cons (.int 9) (.cons (.var 5) .nil))) .nil)))))
    (.cons (.asg 8 (.call 14 (.cons (.prim .add (.cons (.var 3) (.cons (.int 3) .nil))) (.cons (.int 9907) (.cons (.int 4) .nil)))))
    (.cons (.asg 9 (.lst .nil))
    (.cons (.for_ 10 true (.cons (.var 4) .nil) ir15b1)
    (.cons (.ifs (.not (.var 9)) (.cons (.asg 9 (.lst (.cons (.tup (.cons (.var 6) (.cons (.var 7) .nil))) .nil)))
    .nil) .nil)
    (.cons (.ret (.prim .toTup (.cons (.prim .cutTo (.cons (.var 9) (.cons (.var 2) .nil))) .nil)))
    .nil))))))))))
def ir16 : Ss := (.cons (.asg 1 (.lst (.cons (.tup (.cons (.int 1) (.cons (.int 2) .nil))) (.cons (.tup (.cons (.int 0) (.cons (.int 1) .nil))) (.cons (.tup (.cons (.int 1) (.cons (.int 1) .nil))) (.cons (.tup (.cons (.int 1) (.cons (.int 2) .nil))) (.cons (.tup (.cons (.int 0) (.cons (.int 2) .nil))) (.cons (.tup (.cons (.int 1) (.cons (.int 3) .nil))) (.cons (.tup (.cons (.int 2) (.cons (.int 3) .nil))) (.cons (.tup (.cons (.int 0) (.cons (.int 1) .nil))) (.cons (.tup (.cons (.int 1) (.cons (.int 2) .nil))) (.cons (.tup (.cons (.int 2) (.cons (.int 2) .nil))) (.cons (.tup (.cons (.int 0) (.cons (.int 3) .nil))) (.cons (.tup (.cons (.int 1) (.cons (.int 4) .nil))) (.cons (.tup (.cons (.int 2) (.cons (.int 4) .nil))) .nil)))))))))))))))
    (.cons (.ret (.prim .idx (.cons (.prim .add (.cons (.var 1) (.cons (.lst (.cons (.tup (.cons (.int 3) (.cons (.int 3) .nil))) (.cons (.tup (.cons (.int 3) (.cons (.int 4) .nil))) (.cons (.tup (.cons (.int 0) (.cons (.int 4) .nil))) (.cons (.tup (.cons (.int 4) (.cons (.int 4) .nil))) (.cons (.tup (.cons (.int 1) (.cons (.int 2) .nil))) (.cons (.tup (.cons (.int 1) (.cons (.int 1) .nil))) .nil))))))) .nil))) (.cons (.prim .mod (.cons (.var 0) (.cons (.int 19) .nil))) .nil))))
    .nil))
def ir17 : Ss := (.cons (.ret (.prim .eq (.cons (.prim .sorted (.cons (.lst (.cons (.prim .abs (.cons (.prim .sub (.cons (.prim .idx (.cons (.var 1) (.cons (.int 0) .nil))) (.cons (.prim .idx (.cons (.var 2) (.cons (.int 0) .nil))) .nil))) .nil)) (.cons (.prim .abs (.cons (.prim .sub (.cons (.prim .idx (.cons (.var 1) (.cons (.int 1) .nil))) (.cons (.prim .idx (.cons (.var 2) (.cons (.int 1) .nil))) .nil))) .nil)) .nil))) .nil)) (.cons (.prim .toList (.cons (.var 0) .nil)) .nil))))
    .nil)
def ir18 : Ss := (.cons (.ret (.comp false (.cons (.var 0) .nil) (.call 17 (.cons (.var 2) (.cons (.var 3) (.cons (.var 0) .nil)))) (.var 0)))
    .nil)
def ir20b0 : Ss := (.cons (.ifs (.prim .nin (.cons (.var 7) (.cons (.var 3) .nil))) (.cons (.dset 3 (.var 7) (.var 6))
    (.cons (.app 5 (.var 7))
    .nil)) .nil)
    .nil)
def ir20b1 : Ss := (.cons (.for_ 7 false (.cons (.call 11 (.cons (.var 0) (.cons (.var 1) (.cons (.var 6) .nil)))) .nil) ir20b0)
    .nil)
def ir20b2 : Ss := (.cons (.asg 5 (.lst .nil))
    (.cons (.forV 6 4 ir20b1)
    (.cons (.mov 4 5)
    .nil)))
def ir20 : Ss := (.cons (.asg 3 (.done true (.var 2) .non))
    (.cons (.asg 4 (.lst (.cons (.var 2) .nil)))
    (.cons (.while_ (.prim .gt (.cons (.prim .len (.cons (.var 4) .nil)) (.cons (.int 0) .nil))) ir20b2)
    (.cons (.retV 3)
    .nil))))
def ir30b0 : Ss := (.cons (.ifs (.prim .nin (.cons (.var 4) (.cons (.var 3) .nil))) (.cons (.asg 5 (.call 20 (.cons (.var 0) (.cons (.var 1) (.cons (.var 4) .nil)))))
    (.cons (.dupd 3 5)
    (.cons (.app 2 (.prim .skeys (.cons (.var 5) .nil)))
    .nil))) .nil)
    .nil)
def ir30 : Ss := (.cons (.asg 2 (.lst .nil))
    (.cons (.asg 3 (.dnew true))
    (.cons (.forV 4 0 ir30b0)
    (.cons (.retV 2)
    .nil))))
def ir31 : Ss := (.cons (.expr (.call 6 (.cons (.var 0) .nil)))
    (.cons (.expr (.call 7 (.cons (.var 1) .nil)))
    (.cons (.ret (.call 30 (.cons (.var 0) (.cons (.var 1) .nil))))
    .nil)))
def ir32b0 : Ss := (.cons (.asg 4 (.prim .add (.cons (.var 4) (.cons (.comp false (.cons (.call 18 (.cons (.var 0) (.cons (.var 1) (.cons (.prim .idx (.cons (.var 4) (.cons (.var 5) .nil))) .nil)))) .nil) (.prim .nin (.cons (.var 0) (.cons (.var 5) .nil))) (.var 0)) .nil))))
    (.cons (.asg 5 (.prim .add (.cons (.var 5) (.cons (.int 1) .nil))))
    .nil))
def ir32b1 : Ss := (.cons (.asg 4 (.lst (.cons (.prim .idx (.cons (.var 3) (.cons (.int 0) .nil))) .nil)))
    (.cons (.asg 5 (.int 0))
    (.cons (.while_ (.prim .lt (.cons (.var 5) (.cons (.prim .len (.cons (.var 4) .nil)) .nil))) ir32b0)
    (.cons (.app 2 (.prim .sorted (.cons (.var 4) .nil)))
    (.cons (.asg 3 (.comp false (.cons (.var 3) .nil) (.prim .nin (.cons (.var 0) (.cons (.var 5) .nil))) (.var 0)))
    .nil)))))
def ir32 : Ss := (.cons (.asg 2 (.lst .nil))
    (.cons (.asg 3 (.prim .toList (.cons (.var 0) .nil)))
    (.cons (.while_ (.var 3) ir32b1)
    (.cons (.retV 2)
    .nil))))
def ir33 : Ss := (.cons (.asg 1 (.call 15 (.cons (.var 0) (.cons (.int 2) (.cons (.int 24) .nil)))))
    (.cons (.asg 2 (.call 16 (.cons (.call 13 (.cons (.var 0) (.cons (.int 0) .nil))) .nil)))
    (.cons (.asg 3 (.call 31 (.cons (.var 1) (.cons (.var 2) .nil))))
    (.cons (.ifs (.or (.not (.prim (.inst .list) (.cons (.var 3) .nil))) (.comp false (.cons (.var 3) .nil) (.not (.prim (.inst .list) (.cons (.var 0) .nil))) (.var 0))) (.cons (.ret (.bl false))
    .nil) .nil)
    (.cons (.ret (.prim .eq (.cons (.var 3) (.cons (.call 32 (.cons (.var 1) (.cons (.var 2) .nil))) .nil))))
    .nil)))))
/-- the defs by number: 0 is_whole, 1 is_couple, 2 is_cell, 3 is_leap, 4 is_rising, 5 is_floor, 6 checked, 7 checked_leap, 9 folded, 10 are_near, 11 cells_near, 13 _law_cell, 14 _law_mix, 15 _law_floor, 16 _law_leap, 17 _law_is_near, 18 _law_near, 20 leads_to, 30 parts_within, 31 parts_of, 32 _law_parts, 33 law:k04 -/
def U : Nat → Option Fn
  | 0 => some ⟨3, 3, ir0, []⟩
  | 1 => some ⟨1, 1, ir1, []⟩
  | 2 => some ⟨1, 1, ir2, []⟩
  | 3 => some ⟨1, 1, ir3, []⟩
  | 4 => some ⟨1, 1, ir4, []⟩
  | 5 => some ⟨1, 1, ir5, []⟩
  | 6 => some ⟨1, 1, ir6, []⟩
  | 7 => some ⟨1, 1, ir7, []⟩
  | 9 => some ⟨2, 2, ir9, []⟩
  | 10 => some ⟨3, 3, ir10, []⟩
  | 11 => some ⟨3, 3, ir11, []⟩
  | 13 => some ⟨2, 2, ir13, []⟩
  | 14 => some ⟨3, 3, ir14, []⟩
  | 15 => some ⟨3, 13, ir15, []⟩
  | 16 => some ⟨1, 2, ir16, []⟩
  | 17 => some ⟨3, 3, ir17, []⟩
  | 18 => some ⟨3, 3, ir18, []⟩
  | 20 => some ⟨3, 8, ir20, []⟩
  | 30 => some ⟨2, 6, ir30, []⟩
  | 31 => some ⟨2, 2, ir31, []⟩
  | 32 => some ⟨2, 6, ir32, []⟩
  | 33 => some ⟨1, 4, ir33, []⟩
  | _ => none
theorem U0 : U 0 = some ⟨3, 3, ir0, []⟩ := rfl
theorem U1 : U 1 = some ⟨1, 1, ir1, []⟩ := rfl
theorem U2 : U 2 = some ⟨1, 1, ir2, []⟩ := rfl
theorem U3 : U 3 = some ⟨1, 1, ir3, []⟩ := rfl
theorem U4 : U 4 = some ⟨1, 1, ir4, []⟩ := rfl
theorem U5 : U 5 = some ⟨1, 1, ir5, []⟩ := rfl
theorem U6 : U 6 = some ⟨1, 1, ir6, []⟩ := rfl
theorem U7 : U 7 = some ⟨1, 1, ir7, []⟩ := rfl
theorem U9 : U 9 = some ⟨2, 2, ir9, []⟩ := rfl
theorem U10 : U 10 = some ⟨3, 3, ir10, []⟩ := rfl
theorem U11 : U 11 = some ⟨3, 3, ir11, []⟩ := rfl
theorem U13 : U 13 = some ⟨2, 2, ir13, []⟩ := rfl
theorem U14 : U 14 = some ⟨3, 3, ir14, []⟩ := rfl
theorem U15 : U 15 = some ⟨3, 13, ir15, []⟩ := rfl
theorem U16 : U 16 = some ⟨1, 2, ir16, []⟩ := rfl
theorem U17 : U 17 = some ⟨3, 3, ir17, []⟩ := rfl
theorem U18 : U 18 = some ⟨3, 3, ir18, []⟩ := rfl
theorem U20 : U 20 = some ⟨3, 8, ir20, []⟩ := rfl
theorem U30 : U 30 = some ⟨2, 6, ir30, []⟩ := rfl
theorem U31 : U 31 = some ⟨2, 2, ir31, []⟩ := rfl
theorem U32 : U 32 = some ⟨2, 6, ir32, []⟩ := rfl
theorem U33 : U 33 = some ⟨1, 4, ir33, []⟩ := rfl
end LK
set_option linter.all false
namespace LK
open L2.LW
def fuel0 : Nat := 100000
abbrev call (n i : Nat) (ds : List D) : Option SV := callN U fuel0 n i ds
/-- one step of a call -/
theorem call_succ {n i : Nat} {F : Fn} {ds : List D} (h : U i = some F) (hl : ds.length = F.np) (hio : F.io = [] := by rfl) :
    callN U fuel0 (n + 1) i ds = endOf (exSs (callA U fuel0 n) fuel0 F.body (ds.map (fun d => some (.val d)) ++ List.replicate (F.nl - F.np) none)) := callN_succ h hl hio
abbrev Cell := Int × Int
def cD (c : Cell) : D := .tup [.int c.1, .int c.2]
def fD (f : List Cell) : D := .tup (f.map cD)
def lD (f : List Cell) : D := .lst (f.map cD)
@[simp] theorem plain_cD {c : Cell} : plain (cD c) = true := by simp [cD]
@[simp] theorem plains_cells : ∀ {l : List Cell}, plains (l.map cD) = true
  | [] => by simp
  | c :: r => by simp [plains_cells (l := r)]
@[simp] theorem plain_fD {f : List Cell} : plain (fD f) = true := by simp [fD]
@[simp] theorem shal_cD {c : Cell} {n : Nat} : shal (n + 1) (cD c) = true := by simp [cD, shal]
@[simp] theorem shal_cells {n : Nat} {l : List Cell} : (l.map cD).all (shal (n + 1)) = true := by
  rw [List.all_map, List.all_eq_true]; intro x _; exact shal_cD
@[simp] theorem eqD_cD {a b : Cell} : eqD (cD a) (cD b) = decide (a = b) := by
  rw [Bool.eq_iff_iff]
  obtain ⟨a1, a2⟩ := a; obtain ⟨b1, b2⟩ := b
  simp [cD, eqD, eqDs]
@[simp] theorem eqDs_cells : ∀ {a b : List Cell}, eqDs (a.map cD) (b.map cD) = decide (a = b)
  | [], [] => by simp [eqDs]
  | [], _ :: _ => by simp [eqDs]
  | _ :: _, [] => by simp [eqDs]
  | x :: xs, y :: ys => by
    rw [Bool.eq_iff_iff]
    simp [eqDs, eqDs_cells (a := xs) (b := ys)]
@[simp] theorem any_cells {c : Cell} {l : List Cell} : ((l.map cD).any fun y => eqD y (cD c)) = decide (c ∈ l) := by
  rw [Bool.eq_iff_iff]
  simp [List.any_map, List.any_eq_true]
/-! ### the floors' checks -/
theorem is_whole_ok (n : Nat) (i a b : Int) : callN U fuel0 (n + 1) 0 [.int i, .int a, .int b] = some (.val (.bl (decide (a ≤ i) && decide (i ≤ b)))) := by
  rw [call_succ U0 rfl]
  simp [ir0]
  by_cases h : a ≤ i <;> simp [h]
theorem is_couple_ok (n : Nat) (c : Cell) : callN U fuel0 (n + 1) 1 [cD c] = some (.val (.bl true)) := by
  rw [call_succ U1 rfl]
  simp [ir1, cD]
def okC (c : Cell) : Prop := 0 ≤ c.1 ∧ c.1 ≤ 7 ∧ 0 ≤ c.2 ∧ c.2 ≤ 7
theorem is_cell_ok (n : Nat) {c : Cell} (h : okC c) : callN U fuel0 (n + 2) 2 [cD c] = some (.val (.bl true)) := by
  rw [call_succ U2 rfl]
  obtain ⟨h1, h2, h3, h4⟩ := h
  have h0 := is_couple_ok n c
  simp [ir2, h0, is_whole_ok]
  simp [cD, is_whole_ok, h1, h2, h3, h4]
def cLt (a b : Cell) : Prop := a.1 < b.1 ∨ (a.1 = b.1 ∧ a.2 < b.2)
instance (a b : Cell) : Decidable (cLt a b) := by unfold cLt; exact inferInstance
@[simp] theorem p_ltC {a b : Cell} : primD .lt [cD a, cD b] = some (.val (.bl (decide (cLt a b)))) := by
  simp only [cD, primD, pLt, ints?, Option.map_some, Option.bind_some, okBl, lexLt]
  congr 3
  rw [Bool.eq_iff_iff]
  simp only [cLt]
  by_cases h : a.1 = b.1
  · simp [h]
    by_cases h2 : a.2 = b.2
    · simp [h2]
    · simp [h2]
  · simp [h]
theorem cLt_irrefl {a : Cell} : ¬ cLt a a := by unfold cLt; omega
structure OkF (f : List Cell) : Prop where
  ne : f ≠ []
  len : f.length ≤ 24
  cells : ∀ c ∈ f, okC c
  rise : f.Pairwise cLt
theorem OkF.nodup {f : List Cell} (h : f.Pairwise cLt) : f.Nodup := h.imp fun hab e => by subst e; exact cLt_irrefl hab
theorem line_ge : (100000 : Nat) ≤ line := by decide
theorem bools_map {α : Type} {f : α → Bool} : ∀ {l : List α}, bools? (l.map fun x => D.bl (f x)) = some (l.map f)
  | [] => rfl
  | x :: r => by simp [bools?, bools_map (l := r)]
theorem p_all_map {α : Type} {f : α → Bool} {l : List α} : primD .all [.lst (l.map fun x => D.bl (f x))] = some (.val (.bl (l.all f))) := by
  simp [primD, pAll, bools_map, List.all_map, Function.comp_def]
theorem is_leap_ok (n : Nat) {l : Cell} (h : 0 ≤ l.1 ∧ l.1 ≤ l.2 ∧ 1 ≤ l.2 ∧ l.2 ≤ 4) : callN U fuel0 (n + 2) 3 [cD l] = some (.val (.bl true)) := by
  rw [call_succ U3 rfl]
  obtain ⟨h1, h2, h3, h4⟩ := h
  have h0 := is_couple_ok n l
  simp [ir3, h0]
  simp [cD, is_whole_ok, h1, h2, h3, h4]
theorem inR_small {i : Int} (h : 0 ≤ i) (h' : i ≤ 1000000) : inR i := by unfold inR; omega
theorem items_rng2 {a b : Int} (h : inR a ∧ inR b) : itemsOf true [.val (.int a), .val (.int b)] = some ((List.range (b - a).toNat).map fun (k : Nat) => D.int (a + (k : Int))) := by simp [itemsOf, h]
theorem items_rng1 {a : Int} (h : inR a) : itemsOf true [.val (.int a)] = some ((List.range a.toNat).map fun (k : Nat) => D.int (0 + (k : Int))) := by simp [itemsOf, h]
@[simp] theorem items_tup {l : List D} : itemsOf false [.val (.tup l)] = some l := id rfl
@[simp] theorem items_lst {l : List D} : itemsOf false [.val (.lst l)] = some l := id rfl
@[simp] theorem items_lis {o : Bool} {l : List D} : itemsOf false [.obj o (.lst l)] = some l := id rfl
theorem idx_cell {f : List Cell} {k : Nat} (h : k < f.length) : primD .idx [fD f, .int (k : Int)] = some (.val (cD f[k])) := by
  rw [fD, p_idxT, atI_nat (by simpa using h)]; simp
theorem is_rising_ok (n : Nat) {f : List Cell} (hl : f.length ≤ 1000) (h : f.Pairwise cLt) : callN U fuel0 (n + 1) 4 [fD f] = some (.val (.bl true)) := by
  rw [call_succ U4 rfl]
  have hl' := line_ge
  have e3 : ((f.length : Int) - 1).toNat = f.length - 1 := by omega
  simp only [ir4]
  simp
  rw [comp_rule0 (rs := [.val (.int 1), .val (.int f.length)]) (xs := List.range (f.length - 1)) (f := fun (k : Nat) => D.int (1 + (k : Int))) (fun _ => .bl true)]
  · simp [p_all_map]
  · simp [fD]
  · rw [items_rng2 ⟨inR_small (by omega) (by omega), inR_small (by omega) (by omega)⟩, e3]
  · simp; omega
  · intro k hk
    rw [List.mem_range] at hk
    have e1 : (1 + (k : Int) - 1) = (k : Int) := by omega
    have e2 : (1 + (k : Int)) = ((k + 1 : Nat) : Int) := by omega
    have hk1 : k < f.length := by omega
    have hk2 : k + 1 < f.length := by omega
    have := List.pairwise_iff_getElem.mp h k (k + 1) hk1 hk2 (by omega)
    simp [e1]
    rw [idx_cell hk1, e2, idx_cell hk2]
    simp [this]
@[simp] theorem hasTy_fD {f : List Cell} : hasTy .tuple (fD f) = true := id rfl
@[simp] theorem hasTy_cD {c : Cell} : hasTy .tuple (cD c) = true := id rfl
theorem len_f {f : List Cell} : primD .len [fD f] = some (.val (.int f.length)) := by simp [fD]
theorem is_floor_ok (n : Nat) {f : List Cell} (h : OkF f) : callN U fuel0 (n + 3) 5 [fD f] = some (.val (.bl true)) := by
  rw [call_succ U5 rfl]
  have hl' := line_ge
  have h1 := h.len
  have h2 : 1 ≤ f.length := by have := h.ne; cases f <;> simp_all
  have hr := is_rising_ok (n + 1) (by omega) h.rise
  simp only [ir5]
  simp -implicitDefEqProofs [len_f, show (1 : Int) ≤ f.length by omega, show (f.length : Int) ≤ 24 by omega, hr]
  rw [comp_rule0 (rs := [.val (fD f)]) (xs := f) (f := cD) (fun _ => .bl true)]
  · simp [p_all_map, fD]
  · simp
  · rfl
  · omega
  · intro c hc
    simp [is_cell_ok n (h.cells c hc)]
theorem checked_ok (n : Nat) {f : List Cell} (h : OkF f) : callN U fuel0 (n + 4) 6 [fD f] = some (.val (fD f)) := by
  rw [call_succ U6 rfl]
  simp [ir6, is_floor_ok n h]
structure OkL (l : Cell) : Prop where
  a : 0 ≤ l.1
  b : l.1 ≤ l.2
  c : 1 ≤ l.2
  d : l.2 ≤ 4
theorem checked_leap_ok (n : Nat) {l : Cell} (h : OkL l) : callN U fuel0 (n + 3) 7 [cD l] = some (.val (cD l)) := by
  rw [call_succ U7 rfl]
  simp [ir7, is_leap_ok n ⟨h.a, h.b, h.c, h.d⟩]
theorem p_ninL {c : Cell} {f : List Cell} : primD .nin [cD c, lD f] = some (.val (.bl (!decide (c ∈ f)))) := by
  simp only [lD, primD, pNin, shal_cD, shal_cells, Bool.and_self, if_true, any_cells, okBl]
def absI (i : Int) : Int := if i < 0 then -i else i
/-- whether a leap leads from the one to the other -/
def near (l a b : Cell) : Bool := decide ((min (absI (a.1 - b.1)) (absI (a.2 - b.2)), max (absI (a.1 - b.1)) (absI (a.2 - b.2))) = l)
theorem absI_comm (a b : Int) : absI (a - b) = absI (b - a) := by unfold absI; split <;> split <;> omega
theorem near_comm (l a b : Cell) : near l a b = near l b a := by unfold near; rw [absI_comm a.1, absI_comm a.2]
@[simp] theorem cD_0 {c : Cell} : primD .idx [cD c, .int 0] = some (.val (.int c.1)) := id rfl
@[simp] theorem cD_1 {c : Cell} : primD .idx [cD c, .int 1] = some (.val (.int c.2)) := id rfl
theorem p_eqC {a b : Cell} : primD .eq [cD a, cD b] = some (.val (.bl (decide (a = b)))) := by rw [p_eq (by simp) (by simp), eqD_cD]
/-- one of all turned and mirrored ways -/
def fold (x y : Int) : Cell := (min (absI x) (absI y), max (absI x) (absI y))
theorem folded_ok (n : Nat) (x y : Int) : callN U fuel0 (n + 1) 9 [.int x, .int y] = some (.val (cD (fold x y))) := by
  rw [call_succ U9 rfl]
  have e : ∀ x y : Int, D.tup [.int (if y < x then y else x), .int (if y > x then y else x)] = cD (min x y, max x y) := by
    intro x y
    have e1 : (if y < x then y else x) = min x y := by split <;> omega
    have e2 : (if y > x then y else x) = max x y := by split <;> omega
    rw [e1, e2]; rfl
  simp [ir9, -p_min2, -p_max2]
  simp only [p_min2, p_max2, Option.bind_some, toDs, toD, Option.map_some, Function.comp_apply]
  simp
  rw [e]
  rfl
theorem near_fold (l a b : Cell) : decide (fold (b.1 - a.1) (b.2 - a.2) = l) = near l a b := by
  unfold near fold; rw [absI_comm a.1, absI_comm a.2]
theorem are_near_ok (n : Nat) (l a b : Cell) : callN U fuel0 (n + 2) 10 [cD l, cD a, cD b] = some (.val (.bl (near l a b))) := by
  rw [call_succ U10 rfl]
  simp [ir10, folded_ok, p_eqC, near_fold]
theorem cells_near_ok (n : Nat) (l c : Cell) {f : List Cell} (h : f.length ≤ 1000) : callN U fuel0 (n + 3) 11 [fD f, cD l, cD c] = some (.obj true (.lst ((f.filter (near l c)).map cD))) := by
  rw [call_succ U11 rfl]
  have hl' := line_ge
  simp only [ir11]
  simp
  rw [comp_rule (rs := [.val (fD f)]) (xs := f) (f := cD) (near l c) cD]
  · simp
  · simp
  · rfl
  · omega
  · intro x _; simp [are_near_ok]
  · intro x _ _; simp
end LK
set_option linter.all false
namespace LK
open L2.LW
/-- small, for products -/
def sm (a : Int) : Prop := -(2 ^ 64) < a ∧ a < 2 ^ 64
theorem sm_of {a : Int} (h : -1000000 ≤ a) (h' : a ≤ 1000000) : sm a := by unfold sm; omega
theorem p_mulS {a b : Int} (h : sm b) : primD .mul [.int a, .int b] = some (.val (.int (a * b))) := p_mulR h
def sD (ns : List Int) : D := .lst (ns.map D.int)
def cellAt (ns : List Int) (k : Int) : Int := ns.getD k.toNat 0
theorem law_cell_ok (n : Nat) (ns : List Int) {k : Int} (h : 0 ≤ k) : callN U fuel0 (n + 1) 13 [sD ns, .int k] = some (.val (.int (cellAt ns k))) := by
  rw [call_succ U13 rfl]
  obtain ⟨j, rfl⟩ := Int.eq_ofNat_of_zero_le h
  simp -implicitDefEqProofs only [ir13]
  by_cases hj : j < ns.length
  · have hj' : (j : Int) < (ns.length : Int) := by omega
    simp -implicitDefEqProofs [sD, hj']
    rw [p_idxL, atI_nat (by simpa using hj)]
    simp [cellAt, hj]
  · have hj' : ¬ (j : Int) < (ns.length : Int) := by omega
    simp -implicitDefEqProofs [sD, hj']
    simp [cellAt, List.getElem?_eq_none (by omega : ns.length ≤ j)]
theorem law_mix_ok (n : Nat) (x : Int) {p m : Int} (h : 0 < p) (h' : 0 < m) : callN U fuel0 (n + 1) 14 [.int x, .int p, .int m] = some (.val (.int (x * 48271 % p % m))) := by
  rw [call_succ U14 rfl]
  simp -implicitDefEqProofs [ir14, p_mulS (sm_of (a := 48271) (by decide) (by decide)), p_mod h, p_mod h']
/-! ### the floor that a law builds -/
structure Built (down right wide : Int) (r k : Int) (fs : List Cell) : Prop where
  rise : fs.Pairwise cLt
  at_ : ∀ x ∈ fs, down ≤ x.1 ∧ right ≤ x.2 ∧ x.2 < right + wide ∧ (x.1 < down + r ∨ (x.1 = down + r ∧ x.2 < right + k))
theorem Built.next {down right wide r k : Int} {fs : List Cell} (b : Built down right wide r k fs) (hk : 0 ≤ k) (hw : k < wide) (hr : 0 ≤ r) : Built down right wide r (k + 1) (fs ++ [(down + r, right + k)]) := by
  refine ⟨?_, fun x hx => ?_⟩
  · rw [List.pairwise_append]
    refine ⟨b.rise, by simp, fun x hx y hy => ?_⟩
    simp only [List.mem_singleton] at hy
    subst hy
    have := b.at_ x hx
    unfold cLt; simp only; omega
  · rw [List.mem_append, List.mem_singleton] at hx
    rcases hx with hx | rfl
    · have := b.at_ x hx; omega
    · show down ≤ down + r ∧ right ≤ right + k ∧ right + k < right + wide ∧ (down + r < down + r ∨ (down + r = down + r ∧ right + k < right + (k + 1)))
      omega
theorem Built.skip {down right wide r k : Int} {fs : List Cell} (b : Built down right wide r k fs) : Built down right wide r (k + 1) fs :=
  ⟨b.rise, fun x hx => by have := b.at_ x hx; omega⟩
theorem Built.row {down right wide r : Int} {fs : List Cell} (b : Built down right wide r wide fs) : Built down right wide (r + 1) 0 fs :=
  ⟨b.rise, fun x hx => by have := b.at_ x hx; omega⟩
theorem idx3 (a b c : D) {w : Int} (h : w = 0 ∨ w = 1 ∨ w = 2) : ∃ d, (d = a ∨ d = b ∨ d = c) ∧ primD .idx [.lst [a, b, c], .int w] = some (.val d) := by
  rcases h with rfl | rfl | rfl
  · exact ⟨a, .inl rfl, rfl⟩
  · exact ⟨b, .inr (.inl rfl), rfl⟩
  · exact ⟨c, .inr (.inr rfl), rfl⟩
@[simp] theorem cells_snoc {fs : List Cell} {a b : Int} : fs.map cD ++ [.tup [.int a, .int b]] = (fs ++ [(a, b)]).map cD := by simp [cD]
theorem floor_inner (n : Nat) (ns : List Int) {at_ most x rows wide down right way r k : Int} {j12 : Option SV} {fs : List Cell} (h0 : 0 ≤ at_) (hr : 0 ≤ r ∧ r ≤ 1000) (hk : 0 ≤ k ∧ k ≤ 1000) (hw : 0 ≤ way ∧ way < 4) (hl : fs.length ≤ 1000) (hj : freeS (some j12) = true) :
    ∃ v fs', freeS (some v) = true ∧ exSs (callA U fuel0 (n + 1)) fuel0 ir15b0 [some (.val (sD ns)), some (.val (.int at_)), some (.val (.int most)), some (.val (.int x)), some (.val (.int rows)), some (.val (.int wide)), some (.val (.int down)), some (.val (.int right)), some (.val (.int way)),
      some (.obj true (.lst (fs.map cD))), some (.val (.int r)), some (.val (.int k)), j12] =
      some (.nx, [some (.val (sD ns)), some (.val (.int at_)), some (.val (.int most)), some (.val (.int x)), some (.val (.int rows)), some (.val (.int wide)), some (.val (.int down)), some (.val (.int right)), some (.val (.int way)),
      some (.obj true (.lst (fs'.map cD))), some (.val (.int r)), some (.val (.int k)), v]) ∧ (fs' = fs ∨ fs' = fs ++ [(down + r, right + k)]) := by
  have m1 : sm r := sm_of (by omega) (by omega)
  have m2 : sm k := sm_of (by omega) (by omega)
  have h7 : (0 : Int) < 7 := by decide
  have hi : 0 ≤ at_ + 2 + (r + 2 * k) % 7 := by omega
  have hl' := line_ge
  have hl2 : fs.length < line := by omega
  simp -implicitDefEqProofs only [ir15b0]
  simp -implicitDefEqProofs [p_mulS m1, p_mulS m2, p_mod h7, law_cell_ok n ns hi, hj]
  by_cases hz : way = 0
  · simp -implicitDefEqProofs [hz, hl2]
    exact ⟨_, freeS_val, fs ++ [(down + r, right + k)], by simp; rfl, .inr rfl⟩
  · obtain ⟨d, hd, e⟩ := idx3 (.int 2) (.int 4) (.int 7) (w := way - 1) (by omega)
    simp -implicitDefEqProofs [hz, e]
    have key : ∃ m, d = .int m ∧ 0 < m := by
      rcases hd with rfl | rfl | rfl
      · exact ⟨_, rfl, by decide⟩
      · exact ⟨_, rfl, by decide⟩
      · exact ⟨_, rfl, by decide⟩
    obtain ⟨m, rfl, hm⟩ := key
    simp -implicitDefEqProofs [law_mix_ok n _ (show (0 : Int) < 9931 by decide) hm]
    split
    · simp -implicitDefEqProofs [hl2]
      exact ⟨_, freeS_val, fs ++ [(down + r, right + k)], by simp; rfl, .inr rfl⟩
    · exact ⟨_, freeS_val, fs, rfl, .inl rfl⟩
/-- the frame of a law's floor -/
def flE (ns : List Int) (at_ most x rows wide down right way : Int) (fs : List Cell) (a b c : Option SV) : Env :=
  [some (.val (sD ns)), some (.val (.int at_)), some (.val (.int most)), some (.val (.int x)), some (.val (.int rows)), some (.val (.int wide)), some (.val (.int down)), some (.val (.int right)), some (.val (.int way)), some (.obj true (.lst (fs.map cD))), a, b, c]
theorem floor_row (n : Nat) (ns : List Int) {at_ most x rows wide down right way : Int} {r : Nat} {fs : List Cell} {b c : Option SV} (h0 : 0 ≤ at_) (hr : r ≤ 100) (hw : 0 ≤ wide ∧ wide ≤ 6) (hy : 0 ≤ way ∧ way < 4) (hl : fs.length ≤ 6 * r) (hb : Built down right wide r 0 fs) (fb : freeS (some b) = true) (fc : freeS (some c) = true) :
    ∃ a' b' c' fs', (freeS (some a') = true ∧ freeS (some b') = true ∧ freeS (some c') = true) ∧ exSs (callA U fuel0 (n + 1)) fuel0 ir15b1 (flE ns at_ most x rows wide down right way fs (some (.val (.int r))) b c) = some (.nx, flE ns at_ most x rows wide down right way fs' a' b' c') ∧ fs'.length ≤ 6 * (r + 1) ∧ Built down right wide (r + 1 : Nat) 0 fs' := by
  obtain ⟨ρ', h1, b', c', fs', fr, rfl, h2, h3⟩ := forL_rng (i := 11) (a := 0) (m := wide.toNat) (body := exSs (callA U fuel0 (n + 1)) fuel0 ir15b0)
    (fun k ρ => ∃ b' c' fs', (freeS (some b') = true ∧ freeS (some c') = true) ∧ ρ = flE ns at_ most x rows wide down right way fs' (some (.val (.int r))) b' c' ∧ fs'.length ≤ 6 * r + k ∧ Built down right wide r (k : Int) fs') (ρ := flE ns at_ most x rows wide down right way fs (some (.val (.int r))) b c)
    ⟨b, c, fs, ⟨fb, fc⟩, rfl, by omega, hb⟩ fun k ρ hk ⟨b', c', fs', fr, e, h2, h3⟩ => by
      subst e
      obtain ⟨v, fs2, fv, e1, e2⟩ := floor_inner n ns (at_ := at_) (most := most) (x := x) (rows := rows) (wide := wide) (down := down) (right := right) (way := way) (r := r) (k := 0 + (k : Int)) (j12 := c') (fs := fs') h0 (by omega) (by omega) hy (by omega) fr.2
      refine ⟨_, _, e1, .inl rfl, _, v, fs2, ⟨freeS_val, fv⟩, rfl, ?_⟩
      rw [Int.zero_add] at e2
      rcases e2 with rfl | rfl
      · exact ⟨by omega, h3.skip⟩
      · exact ⟨by simp; omega, h3.next (by omega) (by omega) (by omega)⟩
  refine ⟨some (.val (.int r)), b', c', fs', ⟨freeS_val, fr.1, fr.2⟩, ?_, by omega, ?_⟩
  · simp -implicitDefEqProofs only [ir15b1, exSs_cons, exS_for, evEs_cons, evEs_nil, evE_var, free_eq]
    rw [show (flE ns at_ most x rows wide down right way fs (some (.val (.int r))) b c)[11]? = some b from rfl, fb, show look (flE ns at_ most x rows wide down right way fs (some (.val (.int r))) b c) 5 = some (.val (.int wide)) from rfl]
    simp -implicitDefEqProofs [items_rng1 (inR_small hw.1 (by omega : wide ≤ 1000000))]
    rw [show (List.map (fun (k : Nat) => D.int (k : Int)) (List.range wide.toNat)) = (List.range wide.toNat).map fun (k : Nat) => D.int (0 + (k : Int)) by simp, h1]
    simp
  · have e : (wide.toNat : Int) = wide := by omega
    rw [e] at h3
    have := h3.row
    simpa using this
theorem floor_all (n : Nat) (ns : List Int) {at_ most x rows wide down right way : Int} {a b c : Option SV} (h0 : 0 ≤ at_) (hr : 0 ≤ rows ∧ rows ≤ 5) (hw : 0 ≤ wide ∧ wide ≤ 6) (hy : 0 ≤ way ∧ way < 4) (fa : freeS (some a) = true) (fb : freeS (some b) = true) (fc : freeS (some c) = true) :
    ∃ a' b' c' fs', exS (callA U fuel0 (n + 1)) fuel0 (.for_ 10 true (.cons (.var 4) .nil) ir15b1) (flE ns at_ most x rows wide down right way [] a b c) = some (.nx, flE ns at_ most x rows wide down right way fs' a' b' c') ∧ Built down right wide rows 0 fs' ∧ fs'.length ≤ 30 := by
  obtain ⟨ρ', h1, a', b', c', fs', fr, rfl, h2, h3⟩ := forL_rng (i := 10) (a := 0) (m := rows.toNat) (body := exSs (callA U fuel0 (n + 1)) fuel0 ir15b1)
    (fun k ρ => ∃ a' b' c' fs', (freeS (some a') = true ∧ freeS (some b') = true ∧ freeS (some c') = true) ∧ ρ = flE ns at_ most x rows wide down right way fs' a' b' c' ∧ fs'.length ≤ 6 * k ∧ Built down right wide (k : Int) 0 fs') (ρ := flE ns at_ most x rows wide down right way [] a b c)
    ⟨a, b, c, [], ⟨fa, fb, fc⟩, rfl, by simp, ⟨by simp, by simp⟩⟩ fun k ρ hk ⟨a', b', c', fs', fr, e, h2, h3⟩ => by
      subst e
      obtain ⟨a2, b2, c2, fs2, fr2, e1, e2, e3⟩ := floor_row n ns (at_ := at_) (most := most) (x := x) (rows := rows) (wide := wide) (down := down) (right := right) (way := way) (r := k) (fs := fs') (b := b') (c := c') h0 (by omega) hw hy h2 h3 fr.2.1 fr.2.2
      refine ⟨_, _, ?_, .inl rfl, a2, b2, c2, fs2, fr2, rfl, e2, e3⟩
      rw [Int.zero_add]
      exact e1
  refine ⟨a', b', c', fs', ?_, ?_, by omega⟩
  · simp -implicitDefEqProofs only [exS_for, evEs_cons, evEs_nil, evE_var, free_eq]
    rw [show (flE ns at_ most x rows wide down right way [] a b c)[10]? = some a from rfl, fa, show look (flE ns at_ most x rows wide down right way [] a b c) 4 = some (.val (.int rows)) from rfl]
    simp -implicitDefEqProofs [items_rng1 (inR_small hr.1 (by omega : rows ≤ 1000000))]
    rw [show (List.map (fun (k : Nat) => D.int (k : Int)) (List.range rows.toNat)) = (List.range rows.toNat).map fun (k : Nat) => D.int (0 + (k : Int)) by simp, h1]
  · have e : (rows.toNat : Int) = rows := by omega
    rw [e] at h3
    exact h3
theorem p_cutL {fs : List Cell} {k : Int} (h : 0 ≤ k) : primD .cutTo [.lst (fs.map cD), .int k] = some (.obj true (.lst ((fs.take k.toNat).map cD))) := by
  simp [primD, pCutTo, h]
theorem law_floor_ok (n : Nat) (ns : List Int) {at_ most : Int} (h0 : 0 ≤ at_) (hm : 1 ≤ most) (hm2 : most ≤ 24) : ∃ f, OkF f ∧ (f.length : Int) ≤ most ∧ callN U fuel0 (n + 2) 15 [sD ns, .int at_, .int most] = some (.val (fD f)) := by
  rw [call_succ U15 rfl]
  simp -implicitDefEqProofs only [ir15]
  have p5 : (0 : Int) < 5 := by decide
  have p6 : (0 : Int) < 6 := by decide
  have p4 : (0 : Int) < 4 := by decide
  have q1 : (0 : Int) < 9973 := by decide
  have q2 : (0 : Int) < 9967 := by decide
  have q3 : (0 : Int) < 9949 := by decide
  have q4 : (0 : Int) < 9941 := by decide
  have q5 : (0 : Int) < 9907 := by decide
  have h1 : 0 ≤ at_ + 1 := by omega
  simp -implicitDefEqProofs [law_cell_ok n ns h0, law_cell_ok n ns h1, law_mix_ok n _ q1 p5, law_mix_ok n _ q2 p6, law_mix_ok n _ q5 p4]
  generalize hx : cellAt ns at_ = x
  generalize hrows : 1 + x * 48271 % 9973 % 5 = rows
  generalize hwide : 1 + x * 48271 % 9967 % 6 = wide
  have hr9 : 0 < 9 - rows := by omega
  have hw9 : 0 < 9 - wide := by omega
  simp -implicitDefEqProofs [law_mix_ok n _ q3 hr9, law_mix_ok n _ q4 hw9, law_cell_ok n ns h1, law_mix_ok n _ q5 p4]
  generalize hdown : cellAt ns (at_ + 1) * 48271 % 9949 % (9 - rows) = down
  generalize hright : cellAt ns (at_ + 1) * 48271 % 9941 % (9 - wide) = right
  generalize hway : (x + 3) * 48271 % 9907 % 4 = way
  have bw : 0 ≤ way ∧ way < 4 := by omega
  have bd : 0 ≤ down ∧ down < 9 - rows := by rw [← hdown]; exact ⟨Int.emod_nonneg _ (by omega), Int.emod_lt_of_pos _ hr9⟩
  have br : 0 ≤ right ∧ right < 9 - wide := by rw [← hright]; exact ⟨Int.emod_nonneg _ (by omega), Int.emod_lt_of_pos _ hw9⟩
  obtain ⟨a', b', c', fs, e1, hb, hl⟩ := floor_all n ns (at_ := at_) (most := most) (x := x) (rows := rows) (wide := wide) (down := down) (right := right) (way := way) (a := none) (b := none) (c := none) h0 (by omega) (by omega) bw rfl rfl rfl
  have e1' := e1
  simp -implicitDefEqProofs only [flE, List.map_nil] at e1'
  have hok : ∀ c ∈ fs, okC c := fun c hc => by
    have := hb.at_ c hc
    unfold okC; omega
  by_cases hf : fs = []
  · subst hf
    refine ⟨[(down, right)], ⟨by simp, by simp, fun c hc => ?_, by simp⟩, by simp; omega, ?_⟩
    · simp at hc; subst hc; unfold okC; simp only; omega
    · simp -implicitDefEqProofs [e1']
      rw [show D.tup [.int down, .int right] = cD (down, right) from rfl, show ([cD (down, right)] : List D) = [(down, right)].map cD from rfl, p_cutL (by omega)]
      rw [List.take_of_length_le (by simp; omega)]
      simp [fD]
  · refine ⟨fs.take most.toNat, ⟨fun h => ?_, ?_, fun c hc => hok c (List.mem_of_mem_take hc), hb.rise.sublist (List.take_sublist _ _)⟩, ?_, ?_⟩
    · rw [List.take_eq_nil_iff] at h
      rcases h with h | h
      · omega
      · exact hf h
    · rw [List.length_take]; omega
    · rw [List.length_take]; omega
    · have hne : fs.map cD ≠ [] := by simpa using hf
      simp -implicitDefEqProofs [e1', hne, hf]
      rw [p_cutL (by omega)]
      simp [fD]
end LK
set_option linter.all false
namespace LK
open L2.LW
def leaps19 : List Cell := [(1, 2), (0, 1), (1, 1), (1, 2), (0, 2), (1, 3), (2, 3), (0, 1), (1, 2), (2, 2), (0, 3), (1, 4), (2, 4), (3, 3), (3, 4), (0, 4), (4, 4), (1, 2), (1, 1)]
theorem leaps19_ok : ∀ l ∈ leaps19, OkL l := by
  intro l hl
  simp only [leaps19, List.mem_cons, List.not_mem_nil, or_false] at hl
  rcases hl with rfl | rfl | rfl | rfl | rfl | rfl | rfl | rfl | rfl | rfl | rfl | rfl | rfl | rfl | rfl | rfl | rfl | rfl | rfl <;> exact ⟨by decide, by decide, by decide, by decide⟩
theorem law_leap_ok (n : Nat) (x : Int) : ∃ l, OkL l ∧ callN U fuel0 (n + 1) 16 [.int x] = some (.val (cD l)) := by
  rw [call_succ U16 rfl]
  have h19 : (0 : Int) < 19 := by decide
  have hl := line_ge
  obtain ⟨k, hk⟩ := Int.eq_ofNat_of_zero_le (Int.emod_nonneg x (by decide : (19 : Int) ≠ 0))
  have hk2 : k < 19 := by have := Int.emod_lt_of_pos x h19; omega
  have hlen : leaps19.length = 19 := rfl
  refine ⟨leaps19[k]'(by omega), leaps19_ok _ (List.getElem_mem _), ?_⟩
  simp -implicitDefEqProofs only [ir16]
  simp -implicitDefEqProofs [p_mod h19, hk]
  rw [p_addL (by simp; omega)]
  simp -implicitDefEqProofs
  rw [show ([D.tup [.int 1, .int 2], .tup [.int 0, .int 1], .tup [.int 1, .int 1], .tup [.int 1, .int 2], .tup [.int 0, .int 2], .tup [.int 1, .int 3], .tup [.int 2, .int 3], .tup [.int 0, .int 1], .tup [.int 1, .int 2], .tup [.int 2, .int 2], .tup [.int 0, .int 3], .tup [.int 1, .int 4], .tup [.int 2, .int 4],
    .tup [.int 3, .int 3], .tup [.int 3, .int 4], .tup [.int 0, .int 4], .tup [.int 4, .int 4], .tup [.int 1, .int 2], .tup [.int 1, .int 1]] : List D) = leaps19.map cD from rfl]
  rw [p_idxL, atI_nat (by simp; omega)]
  simp
theorem sortI_two (x y : Int) : sortI [x, y] = [min x y, max x y] := by
  by_cases h : x ≤ y
  · simp [sortI, List.mergeSort, List.MergeSort.Internal.splitInTwo, h, List.merge]
    omega
  · simp [sortI, List.mergeSort, List.MergeSort.Internal.splitInTwo, h, List.merge]
    omega
theorem law_is_near_ok (n : Nat) (l a b : Cell) : callN U fuel0 (n + 1) 17 [cD l, cD a, cD b] = some (.val (.bl (near l a b))) := by
  rw [call_succ U17 rfl]
  simp -implicitDefEqProofs only [ir17]
  simp -implicitDefEqProofs
  have e : primD .sorted [.lst [.int (if a.1 - b.1 < 0 then -(a.1 - b.1) else a.1 - b.1), .int (if a.2 - b.2 < 0 then -(a.2 - b.2) else a.2 - b.2)]] = some (.obj true (.lst [.int (min (absI (a.1 - b.1)) (absI (a.2 - b.2))), .int (max (absI (a.1 - b.1)) (absI (a.2 - b.2)))])) := by
    simp [primD, pSorted, sortedL, ints?, sortI_two, absI]
  rw [e, show primD .toList [cD l] = some (.obj true (.lst [.int l.1, .int l.2])) from rfl]
  simp -implicitDefEqProofs
  rw [p_eq (by simp [shal]) (by simp [shal])]
  simp -implicitDefEqProofs [eqD, eqDs]
  unfold near
  rw [Bool.eq_iff_iff]
  obtain ⟨l1, l2⟩ := l
  simp
theorem law_near_ok (n : Nat) (l c : Cell) {f : List Cell} (h : f.length ≤ 1000) : callN U fuel0 (n + 2) 18 [fD f, cD l, cD c] = some (.obj true (.lst ((f.filter (near l c)).map cD))) := by
  rw [call_succ U18 rfl]
  have hl' := line_ge
  simp -implicitDefEqProofs only [ir18]
  simp -implicitDefEqProofs
  rw [comp_rule (rs := [.val (fD f)]) (xs := f) (f := cD) (near l c) cD]
  · simp
  · simp
  · rfl
  · omega
  · intro x _; simp [law_is_near_ok]
  · intro x _ _; simp
def depth : Nat := 40
end LK
set_option linter.all false
namespace LK
open L2.LW
/-! ### dicts from cells to cells -/
abbrev Ms := List (Cell × Cell)
def dD (ms : Ms) : D := .dct true (ms.map fun p => cD p.1) (ms.map fun p => cD p.2)
def get (ms : Ms) (c : Cell) : Option Cell := (ms.find? fun p => decide (p.1 = c)).map (·.2)
def put (ms : Ms) (c v : Cell) : Ms := if (get ms c).isSome then ms.map (fun p => if p.1 = c then (p.1, v) else p) else ms ++ [(c, v)]
@[simp] theorem key_cD {c : Cell} : isKey true (cD c) = true := by simp [cD, isKey, ints?]
theorem kix_cells (c : Cell) : ∀ l : List Cell, kix (l.map cD) (cD c) = l.findIdx? fun x => decide (x = c)
  | [] => rfl
  | x :: r => by
    have ih := kix_cells c r
    unfold kix at ih ⊢
    rw [List.map_cons, List.findIdx?_cons, List.findIdx?_cons, eqD_cD, ih]
theorem kix_some (c : Cell) : ∀ l : List Cell, (kix (l.map cD) (cD c)).isSome = decide (c ∈ l) := fun l => by
  rw [kix_cells]
  cases e : l.findIdx? fun x => decide (x = c) with
  | none =>
    rw [List.findIdx?_eq_none_iff] at e
    have : c ∉ l := fun h => by have := e c h; simp at this
    simp [this]
  | some i =>
    obtain ⟨h1, h2, _⟩ := List.findIdx?_eq_some_iff_getElem.mp e
    have : c ∈ l := by
      have h2 : l[i] = c := by simpa using h2
      rw [← h2]; exact List.getElem_mem h1
    simp [this]
theorem get_cons (p : Cell × Cell) (r : Ms) (c : Cell) : get (p :: r) c = if p.1 = c then some p.2 else get r c := by
  unfold get
  rw [List.find?_cons]
  by_cases h : p.1 = c <;> simp [h]
theorem get_isSome (c : Cell) : ∀ ms : Ms, (get ms c).isSome = decide (c ∈ ms.map (·.1))
  | [] => rfl
  | p :: r => by
    rw [get_cons, List.map_cons]
    by_cases h : p.1 = c
    · simp [h]
    · rw [if_neg h, get_isSome c r]
      have : ¬ c = p.1 := fun z => h z.symm
      simp [this]
theorem keys_dD (ms : Ms) : (ms.map fun p => cD p.1) = (ms.map (·.1)).map cD := by rw [List.map_map]; rfl
@[simp] theorem p_inD {c : Cell} {ms : Ms} : primD .inn [cD c, dD ms] = some (.val (.bl (get ms c).isSome)) := by
  simp only [dD, primD, pIn, key_cD, if_true, okBl, keys_dD, kix_some, get_isSome]
@[simp] theorem p_ninD {c : Cell} {ms : Ms} : primD .nin [cD c, dD ms] = some (.val (.bl (!(get ms c).isSome))) := by
  simp only [dD, primD, pNin, key_cD, if_true, okBl, keys_dD, kix_some, get_isSome]
@[simp] theorem plains_dD {ms : Ms} : plains (ms.map fun p => cD p.2) = true := by
  have : (ms.map fun p => cD p.2) = (ms.map (·.2)).map cD := by rw [List.map_map]; rfl
  rw [this]; exact plains_cells
@[simp] theorem isDct_dD {ms : Ms} : isDct (dD ms) = true := by simp [dD]
@[simp] theorem plainO_dD {ms : Ms} : plainO (dD ms) = true := by simp [dD]
def knodup (ms : Ms) : Prop := (ms.map (·.1)).Nodup
/-- how many cells differ, at most -/
theorem nodup_le {α : Type} [DecidableEq α] : ∀ {l m : List α}, l.Nodup → (∀ x ∈ l, x ∈ m) → l.length ≤ m.length
  | [], _, _, _ => Nat.zero_le _
  | x :: r, m, hn, hs => by
    rw [List.nodup_cons] at hn
    have hx := hs x List.mem_cons_self
    have ih := nodup_le (l := r) (m := m.erase x) hn.2 fun y hy => by
      rw [List.mem_erase_of_ne (fun e => hn.1 (by rw [← e]; exact hy))]
      exact hs y (List.mem_cons_of_mem _ hy)
    rw [List.length_erase_of_mem hx] at ih
    have : 0 < m.length := List.length_pos_of_mem hx
    simp; omega
/-! ### hues -/
/-- the leaps there are -/
theorem leaps14 {l : Cell} (h : OkL l) : l ∈ [((0 : Int), (1 : Int)), (1, 1), (0, 2), (1, 2), (2, 2), (0, 3), (1, 3), (2, 3), (3, 3), (0, 4), (1, 4), (2, 4), (3, 4), (4, 4)] := by
  obtain ⟨a, b⟩ := l
  obtain ⟨h1, h2, h3, h4⟩ := h
  simp only at h1 h2 h3 h4
  simp only [List.mem_cons, Prod.mk.injEq, List.not_mem_nil, or_false]
  omega
theorem OkL.cases {P : Cell → Prop} {l : Cell} (h : OkL l) (p : ∀ x ∈ [((0 : Int), (1 : Int)), (1, 1), (0, 2), (1, 2), (2, 2), (0, 3), (1, 3), (2, 3), (3, 3), (0, 4), (1, 4), (2, 4), (3, 4), (4, 4)], P x) : P l := p l (leaps14 h)
end LK
set_option linter.all false
namespace LK
open L2.LW
/-- over a list of cells, by what has been walked -/
theorem forL_cells {i : Nat} {body : Env → Option (Fl × Env)} (I : List Cell → Env → Prop) (Q : SV → Env → Prop) {xs : List Cell} {ρ : Env} (h0 : I [] ρ)
    (st : ∀ pre x post ρ, xs = pre ++ x :: post → I pre ρ → ∃ fl ρ', body (ρ.set i (some (.val (cD x)))) = some (fl, ρ') ∧ (((fl = .nx ∨ fl = .ct) ∧ I (pre ++ [x]) ρ') ∨ ∃ r, fl = .rt r ∧ Q r ρ')) :
    ∃ fl ρ', forL i body (xs.map cD) ρ = some (fl, ρ') ∧ ((fl = .nx ∧ I xs ρ') ∨ ∃ r, fl = .rt r ∧ Q r ρ') := by
  have key : ∀ (post pre : List Cell) (ρ : Env), xs = pre ++ post → I pre ρ → ∃ fl ρ', forL i body (post.map cD) ρ = some (fl, ρ') ∧ ((fl = .nx ∧ I xs ρ') ∨ ∃ r, fl = .rt r ∧ Q r ρ') := by
    intro post
    induction post with
    | nil => intro pre ρ e h; exact ⟨_, ρ, rfl, .inl ⟨rfl, by rw [e]; simpa using h⟩⟩
    | cons x post ih =>
      intro pre ρ e h
      obtain ⟨fl, ρ1, e1, e2⟩ := st pre x post ρ e h
      rw [List.map_cons, forL, e1]
      simp only [Option.bind_some]
      rcases e2 with ⟨e2, h1⟩ | ⟨r, rfl, q⟩
      · obtain ⟨fl', ρ', e3, h3⟩ := ih (pre ++ [x]) ρ1 (by simp [e]) h1
        rcases e2 with rfl | rfl <;> exact ⟨fl', ρ', e3, h3⟩
      · exact ⟨_, ρ1, rfl, .inr ⟨r, rfl, q⟩⟩
  exact key xs [] ρ rfl h0
/-- without a return on the way -/
theorem forL_cells0 {i : Nat} {body : Env → Option (Fl × Env)} (I : List Cell → Env → Prop) {xs : List Cell} {ρ : Env} (h0 : I [] ρ)
    (st : ∀ pre x post ρ, xs = pre ++ x :: post → I pre ρ → ∃ fl ρ', body (ρ.set i (some (.val (cD x)))) = some (fl, ρ') ∧ (fl = .nx ∨ fl = .ct) ∧ I (pre ++ [x]) ρ') :
    ∃ ρ', forL i body (xs.map cD) ρ = some (.nx, ρ') ∧ I xs ρ' := by
  obtain ⟨fl, ρ', e, h⟩ := forL_cells (i := i) (body := body) I (fun _ _ => False) (xs := xs) (ρ := ρ) h0 fun pre x post ρ e h => by
    obtain ⟨fl, ρ', h1, h2, h3⟩ := st pre x post ρ e h
    exact ⟨fl, ρ', h1, .inl ⟨h2, h3⟩⟩
  rcases h with ⟨rfl, h⟩ | ⟨_, _, z⟩
  · exact ⟨ρ', e, h⟩
  · exact z.elim
def outS (k : Option (List D)) : Option (Option SV) → Option (List D)
  | some (some (.io d)) => k.map (d :: ·)
  | _ => none
@[simp] theorem outS_io {k : Option (List D)} {d : D} : outS k (some (some (.io d))) = k.map (d :: ·) := id rfl
@[simp] theorem outsOf_nil {ρ : Env} : outsOf ρ [] = some [] := by rw [outsOf]
@[simp] theorem outsOf_cons {ρ : Env} {i : Nat} {r : List Nat} : outsOf ρ (i :: r) = outS (outsOf ρ r) ρ[i]? := by
  rw [outsOf]
  rcases ρ[i]? with _ | _ | (_ | _ | _) <;> rfl
@[simp] theorem endA_rt {io : List Nat} {r : SV} {ρ : Env} : endA io (some (.rt r, ρ)) = (outsOf ρ io).map (Ans.ok r) := id rfl
@[simp] theorem endA_nx {io : List Nat} {ρ : Env} : endA io (some (.nx, ρ)) = (outsOf ρ io).map (Ans.ok (.val .non)) := id rfl
/-! ### finding mates -/
/-- cells that were tried -/
def tD (tr : List Cell) : D := .dct true (tr.map cD) (tr.map fun _ => .bl true)
@[simp] theorem plains_tD {tr : List Cell} : plains (tr.map fun _ => (.bl true : D)) = true := by
  induction tr with
  | nil => simp
  | cons x r ih => simpa using ih
@[simp] theorem isDct_tD {tr : List Cell} : isDct (tD tr) = true := by simp [tD]
@[simp] theorem plainO_tD {tr : List Cell} : plainO (tD tr) = true := by simp [tD]
@[simp] theorem p_ninT {c : Cell} {tr : List Cell} : primD .nin [cD c, tD tr] = some (.val (.bl (!decide (c ∈ tr)))) := by
  simp only [tD, primD, pNin, key_cD, if_true, okBl, kix_some]
section
variable (f : List Cell) (l : Cell)
/-- the near cells of the floor -/
def nb (c : Cell) : List Cell := f.filter (near l c)
structure Half (ms : Ms) : Prop where
  nd : knodup ms
  inF : ∀ x y, get ms x = some y → x ∈ f ∧ y ∈ f ∧ near l x y = true
end
section
variable {f : List Cell} {l : Cell}
theorem mem_nb {c o : Cell} : o ∈ nb f l c ↔ o ∈ f ∧ near l c o = true := by unfold nb; exact List.mem_filter
theorem Half.len {ms : Ms} (h : Half f l ms) : ms.length ≤ f.length := by
  have := nodup_le (l := ms.map fun (p : Cell × Cell) => p.1) (m := f) h.nd fun x hx => by
    have : (get ms x).isSome = true := by rw [get_isSome]; simpa using hx
    obtain ⟨y, hy⟩ := Option.isSome_iff_exists.mp this
    exact (h.inF x y hy).1
  simpa using this
@[simp] theorem avOf_cD {c : Cell} : avOf (.val (cD c)) = some (.e (cD c)) := by simp [cD]
@[simp] theorem avOf_fD {g : List Cell} : avOf (.val (fD g)) = some (.e (fD g)) := by simp [fD]
structure TrOk (f tr : List Cell) : Prop where
  nd : tr.Nodup
  sub : ∀ x ∈ tr, x ∈ f
theorem TrOk.len {tr : List Cell} (h : TrOk f tr) : tr.length ≤ f.length := nodup_le h.nd h.sub
theorem TrOk.snoc {tr : List Cell} {o : Cell} (h : TrOk f tr) (ho : o ∈ f) (ht : o ∉ tr) : TrOk f (tr ++ [o]) := by
  refine ⟨?_, fun x hx => ?_⟩
  · rw [List.nodup_append]
    refine ⟨h.nd, by simp, fun a ha b hb e => ?_⟩
    simp at hb; subst hb; subst e; exact ht ha
  · rw [List.mem_append, List.mem_singleton] at hx
    rcases hx with z | rfl
    · exact h.sub x z
    · exact ho
end
end LK
set_option linter.all false
namespace LK
open L2.LW
/-! ### dicts from cells to anything -/
section
variable {α : Type}
def dG (g : α → D) (ms : List (Cell × α)) : D := .dct true (ms.map fun p => cD p.1) (ms.map fun p => g p.2)
def getG (ms : List (Cell × α)) (c : Cell) : Option α := (ms.find? fun p => decide (p.1 = c)).map (·.2)
theorem getG_cons (p : Cell × α) (r : List (Cell × α)) (c : Cell) : getG (p :: r) c = if p.1 = c then some p.2 else getG r c := by
  unfold getG
  rw [List.find?_cons]
  by_cases h : p.1 = c <;> simp [h]
theorem getG_isSome (c : Cell) : ∀ ms : List (Cell × α), (getG ms c).isSome = decide (c ∈ ms.map (·.1))
  | [] => rfl
  | p :: r => by
    rw [getG_cons, List.map_cons]
    by_cases h : p.1 = c
    · simp [h]
    · rw [if_neg h, getG_isSome c r]
      have : ¬ c = p.1 := fun z => h z.symm
      simp [this]
theorem keys_dG (ms : List (Cell × α)) : (ms.map fun p => cD p.1) = (ms.map (·.1)).map cD := by rw [List.map_map]; rfl
theorem p_ninG {g : α → D} {c : Cell} {ms : List (Cell × α)} : primD .nin [cD c, dG g ms] = some (.val (.bl (!(getG ms c).isSome))) := by
  simp only [dG, primD, pNin, key_cD, if_true, okBl, keys_dG, kix_some, getG_isSome]
/-- a key more -/
theorem dput_dG {g : α → D} {ms : List (Cell × α)} {c : Cell} {v : α} (h : getG ms c = none) : dput true (ms.map fun p => cD p.1) (ms.map fun p => g p.2) (cD c) (g v) = dG g (ms ++ [(c, v)]) := by
  unfold dput
  rw [keys_dG, kix_some, ← getG_isSome, h]
  simp [dG]
theorem getG_snoc {ms : List (Cell × α)} {c x : Cell} {v : α} (h : getG ms c = none) : getG (ms ++ [(c, v)]) x = if x = c then some v else getG ms x := by
  induction ms with
  | nil =>
    show getG ((c, v) :: []) x = _
    rw [getG_cons]
    by_cases e : c = x
    · subst e; simp
    · have : ¬ x = c := fun z => e z.symm
      rw [if_neg e, if_neg this]
  | cons p r ih =>
    rw [getG_cons] at h
    split at h
    · cases h
    · rename_i hp
      rw [List.cons_append, getG_cons, getG_cons, ih h]
      by_cases e : p.1 = x
      · rw [if_pos e, if_pos e, if_neg (fun z => hp (e.trans z))]
      · rw [if_neg e, if_neg e]
theorem set_dG {g : α → D} {ρ : Env} {i : Nat} {ms : List (Cell × α)} {c : Cell} {v : α} (h : getG ms c = none) (hl : ms.length < line) :
    dsetS ρ i (some (.val (cD c))) (some (.val (g v))) (some (some (.obj true (dG g ms)))) = some (.nx, ρ.set i (some (.obj true (dG g (ms ++ [(c, v)]))))) := by
  rw [dG, dsetS_obj]
  simp only [Option.bind_some, toD_val, key_cD, List.length_map, hl, decide_true, Bool.and_self, if_true, dput_dG h]
end
/-! ### rings -/
section
variable (f : List Cell) (l : Cell)
/-- from c the goal is come to by so many leaps at most -/
def Bk (goal : Cell) : Nat → Cell → Prop
  | 0, c => c = goal
  | k + 1, c => Bk goal k c ∨ (c ∈ f ∧ ∃ p, Bk goal k p ∧ near l c p = true)
/-- by just so many -/
def Lv (goal : Cell) (k : Nat) (c : Cell) : Prop := Bk f l goal k c ∧ ∀ i, i < k → ¬ Bk f l goal i c
abbrev Leads := List (Cell × Option Cell)
def oD : Option Cell → D
  | none => .non
  | some c => cD c
structure LOk (goal : Cell) (ms : Leads) : Prop where
  nd : (ms.map (·.1)).Nodup
  sub : ∀ c, (getG ms c).isSome = true → c ∈ f
  root : ∀ c, getG ms c = some none → c = goal
  next : ∀ c p, getG ms c = some (some p) → near l c p = true ∧ ∃ j, Lv f l goal (j + 1) c ∧ Lv f l goal j p ∧ (getG ms p).isSome = true
end
section
variable {f : List Cell} {l : Cell} {goal : Cell}
theorem Bk.mono : ∀ {k m : Nat} {c : Cell}, k ≤ m → Bk f l goal k c → Bk f l goal m c
  | k, 0, c, h, b => by have : k = 0 := by omega
                        subst this; exact b
  | k, m + 1, c, h, b => by
    by_cases e : k = m + 1
    · subst e; exact b
    · exact .inl (Bk.mono (by omega) b)
theorem Bk.inF (hg : goal ∈ f) : ∀ {k : Nat} {c : Cell}, Bk f l goal k c → c ∈ f
  | 0, c, h => by rw [show c = goal from h]; exact hg
  | k + 1, c, h => by
    rcases h with h | h
    · exact Bk.inF hg h
    · exact h.1
theorem Bk.lv {k : Nat} {c : Cell} (h : Bk f l goal k c) : ∃ j, j ≤ k ∧ Lv f l goal j c := by
  induction k with
  | zero => exact ⟨0, Nat.le_refl _, h, fun i hi => by omega⟩
  | succ k ih =>
    by_cases hk : Bk f l goal k c
    · obtain ⟨j, h1, h2⟩ := ih hk
      exact ⟨j, by omega, h2⟩
    · exact ⟨k + 1, Nat.le_refl _, h, fun i hi z => hk (z.mono (by omega))⟩
theorem LOk.len {ms : Leads} (h : LOk f l goal ms) : ms.length ≤ f.length := by
  have := nodup_le (l := ms.map fun (p : Cell × Option Cell) => p.1) (m := f) h.nd fun x hx => h.sub x (by rw [getG_isSome]; simpa using hx)
  simpa using this
/-- the frame of leads_to -/
def ltE (f : List Cell) (l goal : Cell) (ms : Leads) (s4 s5 s6 s7 : Option SV) : Env := [some (.val (fD f)), some (.val (cD l)), some (.val (cD goal)), some (.obj true (dG oD ms)), s4, s5, s6, s7]
/-- one more is met -/
theorem lt_turn (n : Nat) (hf : f.length ≤ 100) {ms : Leads} {fu : List Cell} {s4 : Option SV} {k : Nat} {c o : Cell} (hm : LOk f l goal ms) (hc : Lv f l goal k c) (hcm : (getG ms c).isSome = true) (hk : ∀ x, Bk f l goal k x → (getG ms x).isSome = true) (hof : o ∈ f) (hn : near l c o = true) (hfu : fu.length ≤ 1000) :
    ((getG ms o).isSome = true ∧ exSs (callA U fuel0 n) fuel0 ir20b0 (ltE f l goal ms s4 (some (.obj true (lD fu))) (some (.val (cD c))) (some (.val (cD o)))) = some (.nx, ltE f l goal ms s4 (some (.obj true (lD fu))) (some (.val (cD c))) (some (.val (cD o))))) ∨
    (getG ms o = none ∧ LOk f l goal (ms ++ [(o, some c)]) ∧ Lv f l goal (k + 1) o ∧ exSs (callA U fuel0 n) fuel0 ir20b0 (ltE f l goal ms s4 (some (.obj true (lD fu))) (some (.val (cD c))) (some (.val (cD o)))) =
      some (.nx, ltE f l goal (ms ++ [(o, some c)]) s4 (some (.obj true (lD (fu ++ [o])))) (some (.val (cD c))) (some (.val (cD o))))) := by
  have hl' := line_ge
  have hml := hm.len
  cases hg : getG ms o with
  | some v =>
    refine .inl ⟨rfl, ?_⟩
    simp -implicitDefEqProofs [ir20b0, ltE, p_ninG, hg]
  | none =>
    have hlv : Lv f l goal (k + 1) o := ⟨.inr ⟨hof, c, hc.1, by rw [near_comm]; exact hn⟩, fun i hi b => by
      have := hk o (b.mono (by omega))
      rw [hg] at this; cases this⟩
    have hno : o ≠ c := fun e => by subst e; rw [hg] at hcm; cases hcm
    refine .inr ⟨rfl, ⟨?_, fun x hx => ?_, fun x hx => ?_, fun x p hx => ?_⟩, hlv, ?_⟩
    · rw [List.map_append, List.nodup_append]
      refine ⟨hm.nd, by simp, fun a ha b hb e => ?_⟩
      simp at hb; subst hb; subst e
      have : (getG ms a).isSome = true := by rw [getG_isSome]; simpa using ha
      rw [hg] at this; cases this
    · rw [getG_snoc hg] at hx
      split at hx
      · rename_i e; subst e; exact hof
      · exact hm.sub x hx
    · rw [getG_snoc hg] at hx
      split at hx
      · cases hx
      · exact hm.root x hx
    · rw [getG_snoc hg] at hx
      have up : ∀ y, (getG ms y).isSome = true → (getG (ms ++ [(o, some c)]) y).isSome = true := fun y hy => by
        rw [getG_snoc hg]; split
        · rfl
        · exact hy
      split at hx
      · rename_i e
        cases hx; subst e
        exact ⟨by rw [near_comm]; exact hn, k, hlv, hc, up _ hcm⟩
      · obtain ⟨h1, j, h2, h3, h4⟩ := hm.next x p hx
        exact ⟨h1, j, h2, h3, up _ h4⟩
    · have e1 : ∀ ρ : Env, dsetS ρ 3 (some (.val (cD o))) (some (.val (cD c))) (some (some (.obj true (dG oD ms)))) = some (.nx, ρ.set 3 (some (.obj true (dG oD (ms ++ [(o, some c)]))))) := fun ρ => set_dG (g := oD) (v := some c) hg (by omega)
      have e2 : ∀ (ρ : Env), appS ρ 5 (some (.val (cD o))) (some (some (.obj true (lD fu)))) = some (.nx, ρ.set 5 (some (.obj true (lD (fu ++ [o]))))) := fun ρ => by
        rw [lD, appS_lis]
        have : fu.length < line := by omega
        simp only [Option.bind_some, toD_val, List.length_map, this, if_true]
        simp [lD]
      simp -implicitDefEqProofs [ir20b0, ltE, p_ninG, hg, e1, e2]
/-- what is met from the ring k on -/
structure Rg (f : List Cell) (l goal : Cell) (k : Nat) (ms0 ms : Leads) (fu : List Cell) : Prop extends LOk f l goal ms where
  old : ∀ x, Bk f l goal k x → (getG ms x).isSome = true
  fu_ : ∀ x, x ∈ fu ↔ (getG ms x).isSome = true ∧ Lv f l goal (k + 1) x
  up : ∀ x, (getG ms x).isSome = true → Bk f l goal (k + 1) x
  nd2 : fu.Nodup
  cnt : ms.length = ms0.length + fu.length
theorem lt_cell (n : Nat) (hf : f.length ≤ 100) {ms0 ms : Leads} {fu : List Cell} {s4 s7 : Option SV} {k : Nat} {c : Cell} (h : Rg f l goal k ms0 ms fu) (hc : Lv f l goal k c) (h7 : freeS (some s7) = true) :
    ∃ ms' fu' s7', exSs (callA U fuel0 (n + 3)) fuel0 ir20b1 (ltE f l goal ms s4 (some (.obj true (lD fu))) (some (.val (cD c))) s7) = some (.nx, ltE f l goal ms' s4 (some (.obj true (lD fu'))) (some (.val (cD c))) s7') ∧
      Rg f l goal k ms0 ms' fu' ∧ (∀ o ∈ nb f l c, (getG ms' o).isSome = true) ∧ (∀ x, (getG ms x).isSome = true → (getG ms' x).isSome = true) ∧ freeS (some s7') = true := by
  obtain ⟨ρ', e, ms', fu', s7', rfl, r1, r2, r3, r4⟩ := forL_cells0 (i := 7) (body := exSs (callA U fuel0 (n + 3)) fuel0 ir20b0)
    (fun pre ρ => ∃ ms' fu' s7', ρ = ltE f l goal ms' s4 (some (.obj true (lD fu'))) (some (.val (cD c))) s7' ∧ Rg f l goal k ms0 ms' fu' ∧ (∀ o ∈ pre, (getG ms' o).isSome = true) ∧ (∀ x, (getG ms x).isSome = true → (getG ms' x).isSome = true) ∧ freeS (some s7') = true)
    (xs := nb f l c) (ρ := ltE f l goal ms s4 (some (.obj true (lD fu))) (some (.val (cD c))) s7) ⟨ms, fu, s7, rfl, h, fun o ho => (by cases ho), fun y hy => hy, h7⟩
    fun pre o post ρ e ⟨ms', fu', s7', eρ, r1, r2, r3, r4⟩ => by
      subst eρ
      have ho : o ∈ nb f l c := by rw [e]; simp
      have hlen := r1.len
      have hcnt := r1.cnt
      rcases lt_turn (n + 3) hf (fu := fu') (s4 := s4) r1.toLOk hc (r1.old c hc.1) r1.old (mem_nb.mp ho).1 (mem_nb.mp ho).2 (by omega) with ⟨q1, e2⟩ | ⟨q1, q2, q3, e2⟩
      · refine ⟨_, _, e2, .inl rfl, ms', fu', _, rfl, r1, fun y hy => ?_, r3, freeS_val⟩
        rw [List.mem_append, List.mem_singleton] at hy
        rcases hy with z | rfl
        · exact r2 y z
        · exact q1
      · have up : ∀ y, (getG ms' y).isSome = true → (getG (ms' ++ [(o, some c)]) y).isSome = true := fun y hy => by
          rw [getG_snoc q1]; split
          · rfl
          · exact hy
        refine ⟨_, _, e2, .inl rfl, _, _, _, rfl, { q2 with old := fun x hx => up x (r1.old x hx), fu_ := fun x => ?_, up := fun x hx => ?_, nd2 := ?_, cnt := ?_ }, fun y hy => ?_, fun x hx => up x (r3 x hx), freeS_val⟩
        · rw [List.mem_append, List.mem_singleton, r1.fu_ x, getG_snoc q1]
          by_cases ex : x = o
          · subst ex; simp [q3]
          · simp [ex]
        · rw [getG_snoc q1] at hx
          split at hx
          · rename_i ex; rw [ex]; exact q3.1
          · exact r1.up x hx
        · rw [List.nodup_append]
          refine ⟨r1.nd2, by simp, fun a ha b hb eab => ?_⟩
          simp at hb; subst hb; subst eab
          have := ((r1.fu_ a).mp ha).1
          rw [q1] at this; cases this
        · simp; omega
        · rw [List.mem_append, List.mem_singleton] at hy
          rcases hy with z | rfl
          · exact up y (r2 y z)
          · rw [getG_snoc q1]; simp
  refine ⟨ms', fu', s7', ?_, r1, r2, r3, r4⟩
  have cn := cells_near_ok n l c (f := f) (by omega : f.length ≤ 1000)
  simp -implicitDefEqProofs only [ir20b1, exSs_cons, exS_for]
  simp -implicitDefEqProofs [ltE, cn, h7]
  rw [← nb, ← ltE, e]
  simp -implicitDefEqProofs [ltE]
theorem lt_round (n : Nat) (hf : f.length ≤ 100) {ms : Leads} {ed : List Cell} {s5 s6 s7 : Option SV} {k : Nat} (hm : LOk f l goal ms) (hk : ∀ x, Bk f l goal k x ↔ (getG ms x).isSome = true) (hed : ∀ x, x ∈ ed ↔ Lv f l goal k x)
    {s4 : Option SV} (hs4 : s4 = some (.val (lD ed)) ∨ s4 = some (.obj true (lD ed))) (h5 : freeS (some s5) = true) (h6 : freeS (some s6) = true) (h7 : freeS (some s7) = true) :
    ∃ ms' fu s5' s6' s7', exSs (callA U fuel0 (n + 3)) fuel0 ir20b2 (ltE f l goal ms s4 s5 s6 s7) = some (.nx, ltE f l goal ms' (some (.val (lD fu))) s5' s6' s7') ∧
      LOk f l goal ms' ∧ (∀ x, Bk f l goal (k + 1) x ↔ (getG ms' x).isSome = true) ∧ (∀ x, x ∈ fu ↔ Lv f l goal (k + 1) x) ∧ ms'.length = ms.length + fu.length ∧ freeS (some s5') = true ∧ freeS (some s6') = true ∧ freeS (some s7') = true := by
  have f0 : ∀ x, x ∈ ([] : List Cell) ↔ (getG ms x).isSome = true ∧ Lv f l goal (k + 1) x := fun x => by
    constructor
    · intro z; cases z
    · rintro ⟨z1, z2⟩; exact absurd ((hk x).mpr z1) (z2.2 k (Nat.lt_succ_self k))
  have R0 : Rg f l goal k ms ms [] := { hm with old := fun x => (hk x).mp, fu_ := f0, up := fun x hx => .inl ((hk x).mpr hx), nd2 := by simp, cnt := by simp }
  obtain ⟨ρ', e, ms', fu, s6', s7', rfl, r1, r2, r3, r4⟩ := forL_cells0 (i := 6) (body := exSs (callA U fuel0 (n + 3)) fuel0 ir20b1)
    (fun pre ρ => ∃ ms' fu s6' s7', ρ = ltE f l goal ms' (some (.val (lD ed))) (some (.obj true (lD fu))) s6' s7' ∧ Rg f l goal k ms ms' fu ∧ (∀ x ∈ pre, ∀ o ∈ nb f l x, (getG ms' o).isSome = true) ∧ freeS (some s6') = true ∧ freeS (some s7') = true)
    (xs := ed) (ρ := ltE f l goal ms (some (.val (lD ed))) (some (.obj true (lD []))) s6 s7) ⟨ms, [], s6, s7, rfl, R0, fun o ho => (by cases ho), h6, h7⟩
    fun pre x post ρ e ⟨ms', fu, s6', s7', eρ, r1, r2, r3, r4⟩ => by
      subst eρ
      have hx : x ∈ ed := by rw [e]; simp
      obtain ⟨ms2, fu2, s72, e2, q1, q2, q3, q4⟩ := lt_cell n hf (s4 := some (.val (lD ed))) (s7 := s7') r1 ((hed x).mp hx) r4
      refine ⟨_, _, e2, .inl rfl, ms2, fu2, _, s72, rfl, q1, fun y hy o ho => ?_, freeS_val, q4⟩
      rw [List.mem_append, List.mem_singleton] at hy
      rcases hy with z | rfl
      · exact q3 o (r2 y z o ho)
      · exact q2 o ho
  have full : ∀ x, Bk f l goal (k + 1) x ↔ (getG ms' x).isSome = true := fun x => by
    refine ⟨fun b => ?_, r1.up x⟩
    rcases b with b | ⟨hxf, p, hp, hn⟩
    · exact r1.old x b
    · by_cases hb : Bk f l goal k x
      · exact r1.old x hb
      · obtain ⟨j, hj, hlv⟩ := hp.lv
        have : j = k := by
          by_cases e : j = k
          · exact e
          · exact absurd (Bk.mono (k := j + 1) (by omega) (.inr ⟨hxf, p, hlv.1, hn⟩)) hb
        subst this
        exact r2 p ((hed p).mpr hlv) x (mem_nb.mpr ⟨hxf, by rw [near_comm]; exact hn⟩)
  refine ⟨ms', fu, some (.val (lD fu)), s6', s7', ?_, r1.toLOk, full, fun x => ?_, r1.cnt, freeS_val, r3, r4⟩
  · simp -implicitDefEqProofs only [ir20b2]
    rcases hs4 with rfl | rfl
    · simp -implicitDefEqProofs [ltE, h5, h6, exS_forV]
      rw [show seqOf (lD ed) = some (ed.map cD) from rfl, show D.lst [] = lD [] from rfl]
      simp -implicitDefEqProofs only [Option.map_some, Option.bind_some]
      rw [← ltE, e]
      simp -implicitDefEqProofs [ltE]
    · simp -implicitDefEqProofs [ltE, h5, h6, exS_forV]
      rw [show frzS [some (SV.val (fD f)), some (SV.val (cD l)), some (SV.val (cD goal)), some (SV.obj true (dG oD ms)), some (SV.obj true (lD ed)), some (SV.obj true (D.lst [])), s6, s7] 4 (some (some (SV.obj true (lD ed)))) = some (ed.map cD, ltE f l goal ms (some (.val (lD ed))) (some (.obj true (lD []))) s6 s7) from rfl]
      simp -implicitDefEqProofs only [Option.map_some, Option.bind_some]
      rw [e]
      simp -implicitDefEqProofs [ltE]
  · rw [r1.fu_ x]
    exact ⟨fun z => z.2, fun z => ⟨(full x).mp z.1, z⟩⟩
/-- all that lead to the goal -/
structure LFull (f : List Cell) (l goal : Cell) (ms : Leads) : Prop extends LOk f l goal ms where
  all : ∀ x, (getG ms x).isSome = true ↔ ∃ k, Bk f l goal k x
theorem leads_to_ok (n : Nat) (hf : f.length ≤ 100) (hg : goal ∈ f) : ∃ ms, LFull f l goal ms ∧ callN U fuel0 (n + 4) 20 [fD f, cD l, cD goal] = some (.obj true (dG oD ms)) := by
  have ms0 : LOk f l goal [(goal, none)] := by
    refine ⟨by simp, fun c hc => ?_, fun c hc => ?_, fun c p hc => ?_⟩
    · rw [getG_isSome] at hc; simp at hc; subst hc; exact hg
    · rw [getG_cons] at hc; split at hc
      · rename_i z; exact z.symm
      · cases hc
    · rw [getG_cons] at hc; split at hc
      · cases hc
      · cases hc
  obtain ⟨ρ', e, ms, s4, s5, s6, s7, rfl, h1, h2⟩ := whileL_inv (test := evT (callN U fuel0 (n + 3)) (.prim .gt (.cons (.prim .len (.cons (.var 4) .nil)) (.cons (.int 0) .nil)))) (body := exSs (callA U fuel0 (n + 3)) fuel0 ir20b2)
    (fun m ρ => ∃ k ms ed s4 s5 s6 s7, ρ = ltE f l goal ms s4 s5 s6 s7 ∧ (s4 = some (.val (lD ed)) ∨ s4 = some (.obj true (lD ed))) ∧ LOk f l goal ms ∧ (∀ x, Bk f l goal k x ↔ (getG ms x).isSome = true) ∧ (∀ x, x ∈ ed ↔ Lv f l goal k x) ∧ (freeS (some s5) = true ∧ freeS (some s6) = true ∧ freeS (some s7) = true) ∧ m = 2 * (f.length - ms.length) + (if ed = [] then 0 else 1))
    (fun ρ => ∃ ms s4 s5 s6 s7, ρ = ltE f l goal ms s4 s5 s6 s7 ∧ LFull f l goal ms ∧ True)
    (m := 2 * (f.length - 1) + 1) (n := fuel0) (ρ := ltE f l goal [(goal, none)] (some (.obj true (lD [goal]))) none none none) (by unfold fuel0; omega)
    ⟨0, _, [goal], _, none, none, none, rfl, .inr rfl, ms0, fun x => by
        rw [getG_isSome]; simp [Bk], fun x => by
        rw [List.mem_singleton]; exact ⟨fun z => ⟨z, fun i hi => by omega⟩, fun z => z.1⟩, ⟨rfl, rfl, rfl⟩, by simp⟩
    fun m ρ ⟨k, ms, ed, s4, s5, s6, s7, eρ, hs4, q1, q2, q3, q4, q5⟩ => by
      subst eρ
      have ht : evT (callN U fuel0 (n + 3)) (.prim .gt (.cons (.prim .len (.cons (.var 4) .nil)) (.cons (.int 0) .nil))) (ltE f l goal ms s4 s5 s6 s7) = some (decide (0 < ed.length)) := by
        rcases hs4 with rfl | rfl
        · simp -implicitDefEqProofs [ltE, lD]
        · simp -implicitDefEqProofs [ltE, lD]
      by_cases hed : ed = []
      · subst hed
        refine .inl ⟨by rw [ht]; rfl, ms, s4, s5, s6, s7, rfl, { q1 with all := fun x => ⟨fun z => ⟨k, (q2 x).mpr z⟩, fun ⟨j, hj⟩ => ?_⟩ }, trivial⟩
        -- nothing lies beyond
        have none_ : ∀ j x, Bk f l goal j x → Bk f l goal k x := by
          intro j
          induction j with
          | zero => intro x hx; exact hx.mono (Nat.zero_le k)
          | succ j ih =>
            intro x hx
            rcases hx with hx | ⟨hxf, p, hp, hn⟩
            · exact ih x hx
            · obtain ⟨i, hi, hlv⟩ := (ih p hp).lv
              by_cases e : i = k
              · subst e; exact absurd ((q3 p).mpr hlv) (by simp)
              · exact Bk.mono (k := i + 1) (by omega) (.inr ⟨hxf, p, hlv.1, hn⟩)
        exact (q2 x).mp (none_ j x hj)
      · have hpos : 0 < ed.length := List.length_pos_iff.mpr hed
        refine .inr ⟨by rw [ht]; simp [hpos], ?_⟩
        obtain ⟨ms', fu, s5', s6', s7', e2, r1, r2, r3, r4, r5⟩ := lt_round n hf q1 q2 q3 hs4 q4.1 q4.2.1 q4.2.2
        have hl1 := r1.len
        refine ⟨_, _, 2 * (f.length - ms'.length) + (if fu = [] then 0 else 1), e2, .inl rfl, ?_, k + 1, ms', fu, _, s5', s6', s7', rfl, .inl rfl, r1, r2, r3, r5, rfl⟩
        rw [q5, if_neg hed]
        cases fu with
        | nil => simp at r4 ⊢; omega
        | cons a b => simp at r4 ⊢; omega
  refine ⟨ms, h1, ?_⟩
  rw [call_succ U20 rfl]
  simp -implicitDefEqProofs only [ir20]
  simp -implicitDefEqProofs [exS_while]
  rw [show D.dct true [cD goal] [D.non] = dG oD [(goal, none)] from rfl, show D.lst [cD goal] = lD [goal] from rfl, ← ltE, e]
  simp -implicitDefEqProofs [ltE]
end
end LK
set_option linter.all false
namespace LK
open L2.LW
/-! ### cells in their order -/
theorem rise_uniq {α : Type} {R : α → α → Prop} (ir : ∀ a, ¬ R a a) (as : ∀ a b, R a b → R b a → False) : ∀ {l m : List α}, l.Pairwise R → m.Pairwise R → (∀ x, x ∈ l ↔ x ∈ m) → l = m
  | [], [], _, _, _ => rfl
  | [], y :: m, _, _, h => absurd ((h y).mpr List.mem_cons_self) (by simp)
  | x :: l, [], _, _, h => absurd ((h x).mp List.mem_cons_self) (by simp)
  | x :: l, y :: m, hl, hm, h => by
    rw [List.pairwise_cons] at hl hm
    have exy : x = y := by
      rcases List.mem_cons.mp ((h x).mp List.mem_cons_self) with e | e
      · exact e
      · rcases List.mem_cons.mp ((h y).mpr List.mem_cons_self) with e' | e'
        · exact e'.symm
        · exact (as _ _ (hm.1 x e) (hl.1 y e')).elim
    subst exy
    rw [rise_uniq ir as hl.2 hm.2 fun z => ?_]
    constructor
    · intro hz
      rcases List.mem_cons.mp ((h z).mp (List.mem_cons_of_mem _ hz)) with e | e
      · subst e; exact (ir _ (hl.1 z hz)).elim
      · exact e
    · intro hz
      rcases List.mem_cons.mp ((h z).mpr (List.mem_cons_of_mem _ hz)) with e | e
      · subst e; exact (ir _ (hm.1 z hz)).elim
      · exact e
def cl (c : Cell) : List Int := [c.1, c.2]
theorem cl_inj {a b : Cell} (h : cl a = cl b) : a = b := by
  simp [cl] at h; exact Prod.ext h.1 h.2
theorem cl_lt {a b : Cell} (h : cLt a b) : lexP (cl a) (cl b) := by
  show L2.LW.lexLt [a.1, a.2] [b.1, b.2] = true
  simp only [L2.LW.lexLt]
  unfold cLt at h
  by_cases e : a.1 = b.1
  · have : ¬ a.2 = b.2 := by omega
    have h2 : a.2 < b.2 := by omega
    simp [e, this, h2]
  · have h2 : a.1 < b.1 := by omega
    simp [e, h2]
theorem tups_cells : ∀ L : List Cell, tups? (L.map cD) = some (L.map cl)
  | [] => rfl
  | c :: r => by simp [tups?, cD, ints?, tups_cells r, cl]
/-- the sort of some cells of a floor -/
theorem sort_cells {L g : List Cell} (hL : L.Nodup) (hg : g.Pairwise cLt) (h : ∀ x, x ∈ L ↔ x ∈ g) : sortT (L.map cl) = g.map cl := by
  have nd : (L.map cl).Nodup := by
    rw [List.Nodup, List.pairwise_map]; exact hL.imp fun ne e => ne (cl_inj e)
  have up := sortT_up nd
  have up2 : (g.map cl).Pairwise lexP := by rw [List.pairwise_map]; exact hg.imp cl_lt
  refine rise_uniq (R := lexP) (fun a z => by have := lex_irrefl a; rw [show L2.LW.lexLt a a = true from z] at this; cases this) (fun a b z1 z2 => by have := lex_trans z1 z2; rw [lex_irrefl] at this; cases this) up up2 fun x => ?_
  rw [(sortT_perm _).mem_iff, List.mem_map, List.mem_map]
  exact ⟨fun ⟨c, hc, e⟩ => ⟨c, (h c).mp hc, e⟩, fun ⟨c, hc, e⟩ => ⟨c, (h c).mpr hc, e⟩⟩
theorem sortedK_cells {L g : List Cell} (hL : L.Nodup) (hl : L.length < 64) (hg : g.Pairwise cLt) (h : ∀ x, x ∈ L ↔ x ∈ g) : sortedK (L.map cD) = some (.obj true (lD g)) := by
  unfold sortedK
  have nd : (L.map cl).Nodup := by
    rw [List.Nodup, List.pairwise_map]; exact hL.imp fun ne e => ne (cl_inj e)
  rw [tups_cells, Option.bind_some, if_pos ⟨by simpa using hl, nd, by simp [cl]⟩, sort_cells hL hg h, List.map_map]
  rfl
theorem sortedL_cells {L g : List Cell} (h0 : L ≠ []) (hL : L.Nodup) (hl : L.length < 64) (hg : g.Pairwise cLt) (h : ∀ x, x ∈ L ↔ x ∈ g) : sortedL (L.map cD) = some (.obj true (lD g)) := by
  unfold sortedL
  have : ints? (L.map cD) = none := by
    cases L with
    | nil => exact absurd rfl h0
    | cons c r => rfl
  rw [this]
  exact sortedK_cells hL hl hg h
/-! ### one dict into another -/
section
variable {α : Type} (g : α → D)
theorem dput_old {ms : List (Cell × α)} {c : Cell} {v : α} (h : (getG ms c).isSome = true) : dput true (ms.map fun p => cD p.1) (ms.map fun p => g p.2) (cD c) (g v) = dG g (ms.map fun p => if p.1 = c then (p.1, v) else p) := by
  unfold dput
  rw [keys_dG, kix_some, ← getG_isSome, if_pos h, ← keys_dG]
  have : ∀ ms : List (Cell × α), List.zipWith (fun k' v' => if eqD k' (cD c) = true then g v else v') (ms.map fun p => cD p.1) (ms.map fun p => g p.2) = ms.map fun p => g (if p.1 = c then (p.1, v) else p).2 := by
    intro ms
    induction ms with
    | nil => rfl
    | cons p r ih =>
      rw [List.map_cons, List.map_cons, List.zipWith_cons_cons, ih, List.map_cons, eqD_cD]
      by_cases h : p.1 = c <;> simp [h]
  rw [this]
  unfold dG
  rw [List.map_map, List.map_map]
  congr 1
  apply List.map_congr_left
  intro p _
  show cD p.1 = cD (if p.1 = c then (p.1, v) else p).1
  split <;> rfl
theorem merge_G : ∀ (ms2 ms : List (Cell × α)), ∃ ms' : List (Cell × α), dmerge (ms.map fun p => cD p.1) (ms.map fun p => g p.2) (ms2.map fun p => cD p.1) (ms2.map fun p => g p.2) = (ms'.map (fun p => cD p.1), ms'.map fun p => g p.2) ∧
    (∀ c, (getG ms' c).isSome = ((getG ms c).isSome || (getG ms2 c).isSome)) ∧ ms'.length ≤ ms.length + ms2.length
  | [], ms => ⟨ms, by simp [dmerge], fun c => by simp [getG], by simp⟩
  | p :: r, ms => by
    have st : ∃ ms1 : List (Cell × α), dput true (ms.map fun p => cD p.1) (ms.map fun p => g p.2) (cD p.1) (g p.2) = dG g ms1 ∧ (∀ c, (getG ms1 c).isSome = ((getG ms c).isSome || decide (p.1 = c))) ∧ ms1.length ≤ ms.length + 1 := by
      by_cases h : (getG ms p.1).isSome = true
      · refine ⟨_, dput_old g h, fun c => ?_, by simp⟩
        have hk : ((ms.map fun q => if q.1 = p.1 then (q.1, p.2) else q).map (·.1)) = ms.map (·.1) := by
          rw [List.map_map]; apply List.map_congr_left; intro q _
          show (if q.1 = p.1 then (q.1, p.2) else q).1 = q.1
          split <;> rfl
        rw [getG_isSome, hk, ← getG_isSome]
        by_cases e : p.1 = c
        · subst e; simp [h]
        · simp [e]
      · have h' : getG ms p.1 = none := by simpa using h
        refine ⟨_, dput_dG h', fun c => ?_, by simp⟩
        rw [getG_snoc h']
        by_cases e : c = p.1
        · subst e; simp
        · have : ¬ p.1 = c := fun z => e z.symm
          simp [e, this]
    obtain ⟨ms1, e1, e2, e3⟩ := st
    obtain ⟨ms', f1, f2, f3⟩ := merge_G r ms1
    refine ⟨ms', ?_, fun c => ?_, by simp; omega⟩
    · rw [List.map_cons, List.map_cons, dmerge, e1]
      exact f1
    · rw [f2, e2, getG_cons]
      by_cases e : p.1 = c
      · simp [e]
      · simp [e]
end
theorem small_cells {α : Type} {g : α → D} {ms : List (Cell × α)} (h : ∀ c ∈ ms.map (·.1), okC c) : (ms.map fun p => cD p.1).all small8 = true := by
  rw [List.all_eq_true]
  intro d hd
  rw [List.mem_map] at hd
  obtain ⟨p, hp, rfl⟩ := hd
  have := h p.1 (List.mem_map.mpr ⟨p, hp, rfl⟩)
  unfold okC at this
  simp [cD, small8]; omega
/-! ### parts -/
noncomputable def part (f : List Cell) (l c : Cell) : List Cell := f.filter fun x => @decide (∃ k, Bk f l c k x) (Classical.propDecidable _)
theorem mem_part {f : List Cell} {l c x : Cell} : x ∈ part f l c ↔ x ∈ f ∧ ∃ k, Bk f l c k x := by
  unfold part; rw [List.mem_filter]; simp
noncomputable def partsOn (f : List Cell) (l : Cell) : List Cell → List (List Cell) → List (List Cell)
  | [], acc => acc
  | c :: r, acc => if c ∈ acc.flatten then partsOn f l r acc else partsOn f l r (acc ++ [part f l c])
noncomputable def parts (f : List Cell) (l : Cell) : List (List Cell) := partsOn f l f []
def llD (P : List (List Cell)) : D := .lst (P.map lD)
theorem partsOn_done {f : List Cell} {l : Cell} {acc : List (List Cell)} : ∀ {g : List Cell}, (∀ c ∈ g, c ∈ acc.flatten) → partsOn f l g acc = acc
  | [], _ => rfl
  | c :: r, h => by rw [partsOn, if_pos (h c List.mem_cons_self)]; exact partsOn_done fun x hx => h x (List.mem_cons_of_mem _ hx)
theorem self_part {f : List Cell} {l c : Cell} (h : c ∈ f) : c ∈ part f l c := mem_part.mpr ⟨h, 0, rfl⟩
theorem partsOn_step {f : List Cell} {l : Cell} : ∀ {g : List Cell} {acc : List (List Cell)} {c : Cell} {r : List Cell}, (∀ x ∈ g, x ∈ f) → g.filter (fun x => decide (x ∉ acc.flatten)) = c :: r → partsOn f l g acc = partsOn f l g (acc ++ [part f l c])
  | [], acc, c, r, _, h => by cases h
  | x :: g, acc, c, r, hg, h => by
    by_cases hx : x ∈ acc.flatten
    · rw [List.filter_cons, if_neg (by simpa using hx)] at h
      rw [partsOn, if_pos hx, partsOn, if_pos (by rw [List.flatten_append]; exact List.mem_append_left _ hx)]
      exact partsOn_step (fun y hy => hg y (List.mem_cons_of_mem _ hy)) h
    · rw [List.filter_cons, if_pos (by simpa using hx)] at h
      injection h with h1 h2
      subst h1
      rw [partsOn, if_neg hx, partsOn, if_pos (by rw [List.flatten_append]; exact List.mem_append_right _ (by simp [self_part (l := l) (hg x List.mem_cons_self)]))]
end LK
set_option linter.all false
namespace LK
open L2.LW
theorem partsOn_snoc {f : List Cell} {l x : Cell} : ∀ {g : List Cell} {acc : List (List Cell)}, partsOn f l (g ++ [x]) acc = if x ∈ (partsOn f l g acc).flatten then partsOn f l g acc else partsOn f l g acc ++ [part f l x]
  | [], acc => by
    show partsOn f l [x] acc = _
    rw [partsOn]
    rfl
  | c :: r, acc => by
    rw [List.cons_append, partsOn, partsOn]
    split
    · exact partsOn_snoc
    · exact partsOn_snoc
theorem part_rise {f : List Cell} {l c : Cell} (h : f.Pairwise cLt) : (part f l c).Pairwise cLt := h.filter _
section
variable {f : List Cell} {l : Cell}
def pwE (f : List Cell) (l : Cell) (acc : List (List Cell)) (ms : Leads) (s4 s5 : Option SV) : Env := [some (.val (fD f)), some (.val (cD l)), some (.obj true (llD acc)), some (.obj true (dG oD ms)), s4, s5]
theorem pw_cell (n : Nat) (hf : OkF f) {acc : List (List Cell)} {ms : Leads} {c : Cell} {s5 : Option SV} (hc : c ∈ f) (hm : ∀ x, (getG ms x).isSome = decide (x ∈ acc.flatten)) (hl : ms.length ≤ 1000) (ha : acc.length ≤ 1000) (h5 : freeS (some s5) = true) :
    ∃ ms' s5', exSs (callA U fuel0 (n + 4)) fuel0 ir30b0 (pwE f l acc ms (some (.val (cD c))) s5) = some (.nx, pwE f l (if c ∈ acc.flatten then acc else acc ++ [part f l c]) ms' (some (.val (cD c))) s5') ∧
      (∀ x, (getG ms' x).isSome = decide (x ∈ (if c ∈ acc.flatten then acc else acc ++ [part f l c]).flatten)) ∧ ms'.length ≤ ms.length + 24 ∧ freeS (some s5') = true := by
  have hl' := line_ge
  by_cases hin : c ∈ acc.flatten
  · refine ⟨ms, s5, ?_, by simpa [hin] using hm, by omega, h5⟩
    have h1 := hm c
    rw [decide_eq_true hin] at h1
    rw [if_pos hin]
    simp -implicitDefEqProofs [ir30b0, pwE, p_ninG, h1]
  · have hlen := hf.len
    obtain ⟨ms2, q, e2⟩ := leads_to_ok (l := l) n (by omega : f.length ≤ 100) hc
    obtain ⟨ms', f1, f2, f3⟩ := merge_G oD ms2 ms
    have len2 := q.toLOk.len
    have h1 := hm c
    rw [decide_eq_false hin] at h1
    have sub : ∀ x, x ∈ ms2.map (·.1) ↔ x ∈ part f l c := fun x => by
      rw [mem_part, ← q.all x, getG_isSome, decide_eq_true_iff]
      refine ⟨fun z => ⟨q.sub x (by rw [getG_isSome, decide_eq_true_iff]; exact z), z⟩, fun z => z.2⟩
    have sk : primD .skeys [dG oD ms2] = some (.obj true (lD (part f l c))) := by
      show sortedK (ms2.map fun p => cD p.1) = _
      rw [keys_dG]
      exact sortedK_cells q.nd (by rw [List.length_map]; omega) (part_rise hf.rise) sub
    have ed : ∀ s4, dupdD (pwE f l acc ms s4 (some (.obj true (dG oD ms2)))) 3 5 = some (.nx, pwE f l acc ms' s4 (some (.obj true (dG oD ms2)))) := fun s4 => by
      show dupdV _ 3 (.obj true (dG oD ms)) (some (dG oD ms)) (some (dG oD ms2)) = _
      unfold dG
      have sm := small_cells (g := oD) (ms := ms2) fun x hx => hf.cells x (mem_part.mp ((sub x).mp hx)).1
      have le : ms.length + ms2.length < line := by omega
      simp only [dupdV, sm, List.length_map, le, decide_true, Bool.and_self, if_true, f1]
      rfl
    have ap : ∀ (ρ : Env), appS ρ 2 (some (.obj true (lD (part f l c)))) (some (some (.obj true (llD acc)))) = some (.nx, ρ.set 2 (some (.obj true (llD (acc ++ [part f l c]))))) := fun ρ => by
      rw [llD, appS_lis]
      have : acc.length < line := by omega
      simp only [Option.bind_some, toD_lis, List.length_map, this, if_true]
      simp [llD]
    refine ⟨ms', some (.obj true (dG oD ms2)), ?_, fun x => ?_, by omega, freeS_obj⟩
    · rw [if_neg hin]
      simp -implicitDefEqProofs [ir30b0, pwE, p_ninG, h1, e2, h5]
      rw [← pwE, ed]
      simp -implicitDefEqProofs [pwE, sk, ap]
    · rw [if_neg hin, f2, hm, List.flatten_append, Bool.eq_iff_iff]
      have : (getG ms2 x).isSome = decide (x ∈ part f l c) := by rw [getG_isSome, Bool.eq_iff_iff]; simp [sub x]
      rw [this]
      simp
theorem parts_within_ok (n : Nat) (hf : OkF f) : callN U fuel0 (n + 5) 30 [fD f, cD l] = some (.obj true (llD (parts f l))) := by
  have hlen := hf.len
  obtain ⟨ρ', e, ms, s4, s5, rfl, _⟩ := forL_cells0 (i := 4) (body := exSs (callA U fuel0 (n + 4)) fuel0 ir30b0)
    (fun pre ρ => ∃ ms s4 s5, ρ = pwE f l (partsOn f l pre []) ms s4 s5 ∧ (∀ x, (getG ms x).isSome = decide (x ∈ (partsOn f l pre []).flatten)) ∧ ms.length ≤ 24 * pre.length ∧ (partsOn f l pre []).length ≤ pre.length ∧ freeS (some s5) = true)
    (xs := f) (ρ := pwE f l [] [] none none) ⟨[], none, none, rfl, fun x => by simp [partsOn, getG], by simp, by simp [partsOn], rfl⟩
    fun pre c post ρ e ⟨ms, s4, s5, eρ, r1, r2, r3, r4⟩ => by
      subst eρ
      have hc : c ∈ f := by rw [e]; simp
      have hp : pre.length < f.length := by rw [e]; simp
      obtain ⟨ms', s5', e2, q1, q2, q3⟩ := pw_cell (l := l) n hf hc r1 (by omega) (by omega) r4
      refine ⟨_, _, e2, .inl rfl, ms', some (.val (cD c)), s5', ?_, ?_, ?_, ?_, q3⟩
      · rw [partsOn_snoc]
      · rw [partsOn_snoc]; exact q1
      · simp; omega
      · rw [partsOn_snoc]; split <;> simp <;> omega
  rw [call_succ U30 rfl]
  simp -implicitDefEqProofs only [ir30]
  simp -implicitDefEqProofs [exS_forV]
  rw [show seqOf (fD f) = some (f.map cD) from rfl]
  simp -implicitDefEqProofs only [Option.map_some, Option.bind_some]
  rw [show D.dct true [] [] = dG oD [] from rfl, show D.lst [] = llD [] from rfl, ← pwE, e]
  simp -implicitDefEqProofs [pwE, parts]
theorem parts_of_ok (n : Nat) (hf : OkF f) (hl : OkL l) : callN U fuel0 (n + 6) 31 [fD f, cD l] = some (.obj true (llD (parts f l))) := by
  rw [call_succ U31 rfl]
  have h1 := checked_ok (n + 1) hf
  have h2 := checked_leap_ok (n + 2) hl
  simp -implicitDefEqProofs [ir31, h1, h2, parts_within_ok n hf]
end
end LK
set_option linter.all false
namespace LK
open L2.LW
section
variable {f : List Cell} {l : Cell}
theorem notin_snoc {x : Cell} {fo : List (List Cell)} {P : List Cell} : decide (x ∉ (fo ++ [P]).flatten) = (decide (x ∉ P) && decide (x ∉ fo.flatten)) := by
  rw [Bool.eq_iff_iff]
  simp [-List.mem_flatten, List.flatten_append, and_comm]
def lpE (f : List Cell) (l : Cell) (fo : List (List Cell)) (le : List Cell) (s4 s5 : Option SV) : Env := [some (.val (fD f)), some (.val (cD l)), some (.obj true (llD fo)), some (.obj true (lD le)), s4, s5]
/-- what has been gathered from c on -/
structure Ga (f : List Cell) (l c : Cell) (L : List Cell) (k : Nat) : Prop where
  nd : L.Nodup
  sub : ∀ x ∈ L, x ∈ f ∧ ∃ j, Bk f l c j x
  me : c ∈ L
  cl : ∀ i (h : i < L.length), i < k → ∀ o ∈ nb f l L[i], o ∈ L
  le : k ≤ L.length
theorem Ga.len {c : Cell} {L : List Cell} {k : Nat} (g : Ga f l c L k) : L.length ≤ f.length := nodup_le g.nd fun x hx => (g.sub x hx).1
theorem Ga.all {c : Cell} {L : List Cell} (g : Ga f l c L L.length) : ∀ j x, Bk f l c j x → x ∈ L := by
  intro j
  induction j with
  | zero => intro x hx; rw [show x = c from hx]; exact g.me
  | succ j ih =>
    intro x hx
    rcases hx with hx | ⟨hxf, p, hp, hn⟩
    · exact ih x hx
    · obtain ⟨i, hi, rfl⟩ := List.getElem_of_mem (ih p hp)
      exact g.cl i hi hi x (mem_nb.mpr ⟨hxf, by rw [near_comm]; exact hn⟩)
theorem Ga.is {c : Cell} {L : List Cell} (hc : c ∈ f) (g : Ga f l c L L.length) : ∀ x, x ∈ L ↔ x ∈ part f l c := fun x => by
  rw [mem_part]
  exact ⟨fun h => g.sub x h, fun ⟨_, j, h⟩ => g.all j x h⟩
theorem lp_step (n : Nat) (hn : f.Nodup) (hf : f.length ≤ 24) {fo : List (List Cell)} {le L : List Cell} {c : Cell} {k : Nat} (g : Ga f l c L k) (hk : k < L.length) :
    ∃ L', exSs (callA U fuel0 (n + 2)) fuel0 ir32b0 (lpE f l fo le (some (.obj true (lD L))) (some (.val (.int (k : Int))))) = some (.nx, lpE f l fo le (some (.obj true (lD L'))) (some (.val (.int ((k + 1 : Nat) : Int))))) ∧ Ga f l c L' (k + 1) := by
  have hl' := line_ge
  have glen := g.len
  have ln := law_near_ok n l L[k] (f := f) (by omega : f.length ≤ 1000)
  have ix : primD .idx [lD L, .int (k : Int)] = some (.val (cD L[k])) := by
    rw [lD, p_idxL, atI_nat (by simpa using hk)]; simp
  refine ⟨L ++ (nb f l L[k]).filter (fun o => decide (o ∉ L)), ?_, ?_⟩
  · have fl : ((nb f l L[k]).filter fun o => decide (o ∉ L)).length ≤ f.length := Nat.le_trans (List.length_filter_le _ _) (List.length_filter_le _ _)
    simp -implicitDefEqProofs only [ir32b0]
    simp -implicitDefEqProofs [lpE]
    rw [comp_rule (rs := [.obj true (lD (nb f l L[k]))]) (xs := nb f l L[k]) (f := cD) (fun o => decide (o ∉ L)) cD]
    · simp -implicitDefEqProofs only [Function.comp_apply, Option.map_some, Option.bind_some, List.map_cons, List.map_nil, seeD_lis, seeD_val]
      rw [lD, p_addL (by simp only [List.length_map]; omega)]
      simp -implicitDefEqProofs [lD]
    · simp -implicitDefEqProofs [ix, ln]
      rfl
    · rfl
    · have := List.length_filter_le (near l L[k]) f
      unfold nb; omega
    · intro o ho
      simp -implicitDefEqProofs [p_ninL]
    · intro o ho _
      simp -implicitDefEqProofs
  · refine ⟨?_, fun x hx => ?_, by simp [g.me], fun i hi hik o ho => ?_, by simp; omega⟩
    · rw [List.nodup_append]
      refine ⟨g.nd, (hn.filter _).filter _, fun a ha b hb e => ?_⟩
      rw [List.mem_filter, decide_eq_true_iff] at hb
      exact hb.2 (by rw [← e]; exact ha)
    · rw [List.mem_append] at hx
      rcases hx with hx | hx
      · exact g.sub x hx
      · rw [List.mem_filter] at hx
        obtain ⟨h1, h2⟩ := mem_nb.mp hx.1
        obtain ⟨_, j, hj⟩ := g.sub L[k] (List.getElem_mem hk)
        exact ⟨h1, j + 1, .inr ⟨h1, L[k], hj, by rw [near_comm]; exact h2⟩⟩
    · rw [List.mem_append]
      have hiL : i < L.length := by omega
      rw [List.getElem_append_left hiL] at ho
      by_cases e : i < k
      · exact .inl (g.cl i hiL e o ho)
      · have : i = k := by omega
        subst this
        by_cases ho2 : o ∈ L
        · exact .inl ho2
        · exact .inr (List.mem_filter.mpr ⟨ho, by simp [ho2]⟩)
theorem lp_gather (n : Nat) (hn : f.Nodup) (hf : f.length ≤ 24) {fo : List (List Cell)} {le : List Cell} {c : Cell} (hc : c ∈ f) :
    ∃ L, exS (callA U fuel0 (n + 2)) fuel0 (.while_ (.prim .lt (.cons (.var 5) (.cons (.prim .len (.cons (.var 4) .nil)) .nil))) ir32b0) (lpE f l fo le (some (.obj true (lD [c]))) (some (.val (.int 0)))) = some (.nx, lpE f l fo le (some (.obj true (lD L))) (some (.val (.int (L.length : Int))))) ∧ Ga f l c L L.length := by
  obtain ⟨ρ', e, L, rfl, g⟩ := whileL_inv (test := evT (callN U fuel0 (n + 2)) (.prim .lt (.cons (.var 5) (.cons (.prim .len (.cons (.var 4) .nil)) .nil)))) (body := exSs (callA U fuel0 (n + 2)) fuel0 ir32b0)
    (fun m ρ => ∃ L, ∃ k : Nat, ρ = lpE f l fo le (some (.obj true (lD L))) (some (.val (.int (k : Int)))) ∧ Ga f l c L k ∧ m = f.length - k)
    (fun ρ => ∃ L, ρ = lpE f l fo le (some (.obj true (lD L))) (some (.val (.int (L.length : Int)))) ∧ Ga f l c L L.length)
    (m := f.length) (n := fuel0) (ρ := lpE f l fo le (some (.obj true (lD [c]))) (some (.val (.int 0)))) (by unfold fuel0; omega)
    ⟨[c], 0, rfl, ⟨by simp, fun x hx => by rw [List.mem_singleton] at hx; subst hx; exact ⟨hc, 0, rfl⟩, by simp, fun i _ h => by omega, by simp⟩, by omega⟩
    fun m ρ ⟨L, k, eρ, g, hm⟩ => by
      subst eρ
      have ht : evT (callN U fuel0 (n + 2)) (.prim .lt (.cons (.var 5) (.cons (.prim .len (.cons (.var 4) .nil)) .nil))) (lpE f l fo le (some (.obj true (lD L))) (some (.val (.int (k : Int))))) = some (decide (k < L.length)) := by
        simp -implicitDefEqProofs [lpE, lD]
      by_cases hk : k < L.length
      · obtain ⟨L', e2, g'⟩ := lp_step n hn hf (fo := fo) (le := le) g hk
        have := g.len
        exact .inr ⟨by rw [ht]; simp [hk], _, _, f.length - (k + 1), e2, .inl rfl, by omega, L', k + 1, rfl, g', rfl⟩
      · have : k = L.length := by have := g.le; omega
        subst this
        exact .inl ⟨by rw [ht]; simp, L, rfl, g⟩
  refine ⟨L, ?_, g⟩
  rw [exS_while]
  exact e
theorem lp_turn (n : Nat) (hF : OkF f) {fo : List (List Cell)} {c : Cell} {r : List Cell} {s4 s5 : Option SV} (hle : f.filter (fun x => decide (x ∉ fo.flatten)) = c :: r) (hfo : fo.length ≤ 100) (h4 : freeS (some s4) = true) (h5 : freeS (some s5) = true) :
    ∃ s4' s5', exSs (callA U fuel0 (n + 2)) fuel0 ir32b1 (lpE f l fo (c :: r) s4 s5) = some (.nx, lpE f l (fo ++ [part f l c]) (f.filter fun x => decide (x ∉ (fo ++ [part f l c]).flatten)) s4' s5') ∧ freeS (some s4') = true ∧ freeS (some s5') = true := by
  have hl' := line_ge
  have hlen := hF.len
  have hn := OkF.nodup hF.rise
  have hc : c ∈ f := by
    have : c ∈ f.filter (fun x => decide (x ∉ fo.flatten)) := by rw [hle]; exact List.mem_cons_self
    exact (List.mem_filter.mp this).1
  obtain ⟨L, e, g⟩ := lp_gather (l := l) n hn hlen (fo := fo) (le := c :: r) hc
  have gl := g.len
  have so : primD .sorted [lD L] = some (.obj true (lD (part f l c))) := by
    show sortedL (L.map cD) = _
    exact sortedL_cells (fun z => by have := g.me; rw [z] at this; cases this) g.nd (by omega) (part_rise hF.rise) (g.is hc)
  have ap : ∀ (ρ : Env), appS ρ 2 (some (.obj true (lD (part f l c)))) (some (some (.obj true (llD fo)))) = some (.nx, ρ.set 2 (some (.obj true (llD (fo ++ [part f l c]))))) := fun ρ => by
    rw [llD, appS_lis]
    have : fo.length < line := by omega
    simp only [Option.bind_some, toD_lis, List.length_map, this, if_true]
    simp [llD]
  have ix : primD .idx [lD (c :: r), .int 0] = some (.val (cD c)) := by
    rw [lD, p_idxL, show (0 : Int) = ((0 : Nat) : Int) from rfl, atI_nat (by simp)]; rfl
  have rl : (c :: r).length ≤ f.length := by rw [← hle]; exact List.length_filter_le _ _
  refine ⟨some (.obj true (lD L)), some (.val (.int (L.length : Int))), ?_, freeS_obj, freeS_val⟩
  generalize hG : (f.filter fun x => decide (x ∉ (fo ++ [part f l c]).flatten)) = G
  simp -implicitDefEqProofs only [ir32b1]
  simp -implicitDefEqProofs [lpE, ix, h4, h5]
  rw [show D.lst [cD c] = lD [c] from rfl, ← lpE, e]
  simp -implicitDefEqProofs [lpE, so, ap]
  rw [comp_rule (rs := [.obj false (lD (c :: r))]) (xs := c :: r) (f := cD) (fun o => decide (o ∉ L)) cD]
  · simp -implicitDefEqProofs
    rw [← hG, ← hle, List.filter_filter]
    show lD _ = lD _
    congr 1
    apply List.filter_congr
    intro x hx
    rw [notin_snoc]
    congr 1
    rw [Bool.eq_iff_iff]
    simp [g.is hc x]
  · simp -implicitDefEqProofs
  · rfl
  · omega
  · intro o ho
    simp -implicitDefEqProofs [p_ninL]
  · intro o ho _
    simp -implicitDefEqProofs
theorem law_parts_ok (n : Nat) (hF : OkF f) : callN U fuel0 (n + 3) 32 [fD f, cD l] = some (.obj true (llD (parts f l))) := by
  have hlen := hF.len
  have f0 : (f.filter fun x => decide (x ∉ ([] : List (List Cell)).flatten)) = f := List.filter_eq_self.mpr (by simp)
  obtain ⟨ρ', e, s3, s4, s5, rfl⟩ := whileL_inv (test := evT (callN U fuel0 (n + 2)) (.var 3)) (body := exSs (callA U fuel0 (n + 2)) fuel0 ir32b1)
    (fun m ρ => ∃ fo s4 s5, ρ = lpE f l fo (f.filter fun x => decide (x ∉ fo.flatten)) s4 s5 ∧ partsOn f l f fo = parts f l ∧ fo.length + m ≤ f.length ∧ m = (f.filter fun x => decide (x ∉ fo.flatten)).length ∧ freeS (some s4) = true ∧ freeS (some s5) = true)
    (fun ρ => ∃ s3 s4 s5, ρ = lpE f l (parts f l) s3 s4 s5)
    (m := f.length) (n := fuel0) (ρ := lpE f l [] f none none) (by unfold fuel0; omega)
    ⟨[], none, none, by rw [f0], rfl, by simp, by rw [f0], rfl, rfl⟩
    fun m ρ ⟨fo, s4, s5, eρ, r1, r2, r3, r4, r5⟩ => by
      subst eρ
      have ht : evT (callN U fuel0 (n + 2)) (.var 3) (lpE f l fo (f.filter fun x => decide (x ∉ fo.flatten)) s4 s5) = some (!(f.filter fun x => decide (x ∉ fo.flatten)).isEmpty) := by
        simp -implicitDefEqProofs [lpE, lD]
      cases hle : f.filter fun x => decide (x ∉ fo.flatten) with
      | nil =>
        refine .inl ⟨by rw [hle] at ht; rw [ht]; rfl, [], s4, s5, ?_⟩
        have : parts f l = fo := by
          rw [← r1]
          apply partsOn_done
          intro c hc
          by_cases z : c ∈ fo.flatten
          · exact z
          · have : c ∈ f.filter fun x => decide (x ∉ fo.flatten) := List.mem_filter.mpr ⟨hc, by simpa using z⟩
            rw [hle] at this; cases this
        rw [this]
      | cons c r =>
        rw [hle] at r3 ht
        simp at r3
        have r1' := partsOn_step (f := f) (l := l) (fun x hx => hx) hle
        obtain ⟨s4', s5', e2, q4, q5⟩ := lp_turn (l := l) n hF (s4 := s4) (s5 := s5) hle (by omega) r4 r5
        have hc : c ∈ f := by
          have : c ∈ f.filter (fun x => decide (x ∉ fo.flatten)) := by rw [hle]; exact List.mem_cons_self
          exact (List.mem_filter.mp this).1
        have lt : (f.filter fun x => decide (x ∉ (fo ++ [part f l c]).flatten)).length < m := by
          have e3 : (f.filter fun x => decide (x ∉ (fo ++ [part f l c]).flatten)) = (c :: r).filter fun x => decide (x ∉ part f l c) := by
            rw [← hle, List.filter_filter]
            apply List.filter_congr
            intro x hx
            rw [notin_snoc]
          rw [e3, List.filter_cons, if_neg (by simp [self_part hc])]
          have := List.length_filter_le (fun x => decide (x ∉ part f l c)) r
          omega
        refine .inr ⟨by rw [ht]; rfl, _, _, _, e2, .inl rfl, lt, fo ++ [part f l c], s4', s5', rfl, by rw [← r1']; exact r1, by rw [List.length_append, List.length_singleton]; omega, rfl, q4, q5⟩
  rw [call_succ U32 rfl]
  simp -implicitDefEqProofs only [ir32]
  simp -implicitDefEqProofs [exS_while, show primD .toList [fD f] = some (.obj true (lD f)) from rfl]
  rw [show D.lst [] = llD [] from rfl, ← lpE, e]
  simp -implicitDefEqProofs [lpE]
end
theorem shal_lD {n : Nat} {L : List Cell} : shal (n + 2) (lD L) = true := by simp [lD, shal]
theorem eqD_lD {a b : List Cell} : eqD (lD a) (lD b) = decide (a = b) := by simp [lD, eqD]
theorem eqDs_ll : ∀ (P : List (List Cell)), eqDs (P.map lD) (P.map lD) = true
  | [] => by simp [eqDs]
  | x :: r => by simp [eqDs, eqD_lD, eqDs_ll r]
theorem law_k04 (n : Nat) (ns : List Int) : callN U fuel0 (n + 7) 33 [sD ns] = some (.val (.bl true)) := by
  rw [call_succ U33 rfl]
  simp -implicitDefEqProofs only [ir33]
  obtain ⟨f, hf, _, e1⟩ := law_floor_ok (n + 4) ns (at_ := 2) (most := 24) (by decide) (by decide) (by decide)
  obtain ⟨l, hl, e2⟩ := law_leap_ok (n + 5) (cellAt ns 0)
  have hlen := hf.len
  have hl' := line_ge
  have c0 := law_cell_ok (n + 5) ns (k := 0) (by decide)
  have p1 := parts_of_ok n hf hl
  have p2 := law_parts_ok (n + 3) (l := l) hf
  have pl : (parts f l).length ≤ f.length := by
    have key : ∀ (g : List Cell) (acc : List (List Cell)), (partsOn f l g acc).length ≤ acc.length + g.length := by
      intro g
      induction g with
      | nil => intro acc; simp [partsOn]
      | cons c r ih =>
        intro acc
        rw [partsOn]
        split
        · have := ih acc; simp; omega
        · have := ih (acc ++ [part f l c]); simp at this ⊢; omega
    have := key f []
    simpa [parts] using this
  have eq1 : primD .eq [llD (parts f l), llD (parts f l)] = some (.val (.bl true)) := by
    have sh : shal 8 (llD (parts f l)) = true := by
      rw [llD, shal, List.all_map, List.all_eq_true]
      intro x _
      exact shal_lD
    rw [p_eq sh sh]
    congr 3
    rw [llD, eqD]
    exact eqDs_ll _
  have cmp : evE (callN U fuel0 (n + 6)) (E.comp false (Es.cons (E.var 3) Es.nil) (E.prim (Prim.inst Ty.list) (Es.cons (E.var 0) Es.nil)).not (E.var 0)) [some (SV.val (sD ns)), some (SV.val (fD f)), some (SV.val (cD l)), some (SV.obj true (llD (parts f l)))] = some (.obj true (.lst [])) := by
    rw [comp_rule (rs := [.obj false (llD (parts f l))]) (xs := parts f l) (f := lD) (fun _ => false) lD]
    · have e7 : ∀ L : List (List Cell), L.filter (fun _ => false) = [] := fun L => by simp
      rw [e7]; rfl
    · simp -implicitDefEqProofs
    · rfl
    · omega
    · intro x _
      simp -implicitDefEqProofs [show hasTy Ty.list (lD x) = true from rfl]
    · intro x _ h; cases h
  simp -implicitDefEqProofs [e1, c0, e2, p1]
  rw [show hasTy Ty.list (llD (parts f l)) = true from rfl, evT_comp, cmp]
  simp -implicitDefEqProofs [p2, eq1]
theorem law_true_k04 (ns : List Int) (_ : ns.length ≤ 63) : callN U fuel0 depth 33 [.lst (ns.map D.int)] = some (.val (.bl true)) := law_k04 33 ns
end LK
set_option maxHeartbeats 4000000
namespace LK
open PySem PySem.Spec PyProof.Rows L2 L2.LW
def top (i : Nat) : Stmt := PySem.Challenge.pw_leaperwalk_k04_parts.main.body.getD i (.Pass ⟨0, 0, 0, 0⟩)
def psOf : Nat → List Str
  | 0 => ["thing", "least", "most"]
  | 1 => ["thing"]
  | 2 => ["thing"]
  | 3 => ["thing"]
  | 4 => ["cells"]
  | 5 => ["thing"]
  | 6 => ["floor"]
  | 7 => ["leap"]
  | 9 => ["down", "right"]
  | 10 => ["leap", "one", "other"]
  | 11 => ["floor", "leap", "cell"]
  | 13 => ["_law_script", "_law_k"]
  | 14 => ["_law_cell_here", "_law_prime", "_law_many"]
  | 15 => ["_law_script", "_law_at", "_law_most"]
  | 16 => ["_law_cell_here"]
  | 17 => ["_law_leap_here", "_law_one", "_law_other"]
  | 18 => ["_law_floor_here", "_law_leap_here", "_law_cell_here"]
  | 20 => ["floor", "leap", "goal"]
  | 30 => ["cells", "leap"]
  | 31 => ["floor", "leap"]
  | 32 => ["_law_floor_here", "_law_leap_here"]
  | 33 => ["_law_script"]
  | _ => []
def ioOf : Nat → List Nat
  | _ => []
structure Txt (K : PySem.W.Frag) (mg : Str → Option Value) (F : Nat → Addr) (FD : Nat → FuncData) (TK : Nat → Tok) : Prop where
  m0 : mg "is_whole" = some (.ref (F 0))
  f0 : Fun K "is_whole" "is_whole" (top 8) (F 0) (FD 0)
  b0 : Binds K (FD 0) (psOf 0) []
  m1 : mg "is_couple" = some (.ref (F 1))
  f1 : Fun K "is_couple" "is_couple" (top 9) (F 1) (FD 1)
  b1 : Binds K (FD 1) (psOf 1) []
  m2 : mg "is_cell" = some (.ref (F 2))
  f2 : Fun K "is_cell" "is_cell" (top 10) (F 2) (FD 2)
  b2 : Binds K (FD 2) (psOf 2) []
  m3 : mg "is_leap" = some (.ref (F 3))
  f3 : Fun K "is_leap" "is_leap" (top 11) (F 3) (FD 3)
  b3 : Binds K (FD 3) (psOf 3) []
  m4 : mg "is_rising" = some (.ref (F 4))
  f4 : Fun K "is_rising" "is_rising" (top 12) (F 4) (FD 4)
  b4 : Binds K (FD 4) (psOf 4) []
  m5 : mg "is_floor" = some (.ref (F 5))
  f5 : Fun K "is_floor" "is_floor" (top 13) (F 5) (FD 5)
  b5 : Binds K (FD 5) (psOf 5) []
  m6 : mg "checked" = some (.ref (F 6))
  f6 : Fun K "checked" "checked" (top 14) (F 6) (FD 6)
  b6 : Binds K (FD 6) (psOf 6) []
  m7 : mg "checked_leap" = some (.ref (F 7))
  f7 : Fun K "checked_leap" "checked_leap" (top 15) (F 7) (FD 7)
  b7 : Binds K (FD 7) (psOf 7) []
  m9 : mg "folded" = some (.ref (F 9))
  f9 : Fun K "folded" "folded" (top 17) (F 9) (FD 9)
  b9 : Binds K (FD 9) (psOf 9) []
  m10 : mg "are_near" = some (.ref (F 10))
  f10 : Fun K "are_near" "are_near" (top 18) (F 10) (FD 10)
  b10 : Binds K (FD 10) (psOf 10) []
  m11 : mg "cells_near" = some (.ref (F 11))
  f11 : Fun K "cells_near" "cells_near" (top 19) (F 11) (FD 11)
  b11 : Binds K (FD 11) (psOf 11) []
  m13 : mg "_law_cell" = some (.ref (F 13))
  f13 : Fun K "_law_cell" "_law_cell" (top 24) (F 13) (FD 13)
  b13 : Binds K (FD 13) (psOf 13) []
  m14 : mg "_law_mix" = some (.ref (F 14))
  f14 : Fun K "_law_mix" "_law_mix" (top 25) (F 14) (FD 14)
  b14 : Binds K (FD 14) (psOf 14) []
  m15 : mg "_law_floor" = some (.ref (F 15))
  f15 : Fun K "_law_floor" "_law_floor" (top 26) (F 15) (FD 15)
  b15 : Binds K (FD 15) (psOf 15) []
  m16 : mg "_law_leap" = some (.ref (F 16))
  f16 : Fun K "_law_leap" "_law_leap" (top 27) (F 16) (FD 16)
  b16 : Binds K (FD 16) (psOf 16) []
  m17 : mg "_law_is_near" = some (.ref (F 17))
  f17 : Fun K "_law_is_near" "_law_is_near" (top 28) (F 17) (FD 17)
  b17 : Binds K (FD 17) (psOf 17) []
  m18 : mg "_law_near" = some (.ref (F 18))
  f18 : Fun K "_law_near" "_law_near" (top 29) (F 18) (FD 18)
  b18 : Binds K (FD 18) (psOf 18) []
  m20 : mg "leads_to" = some (.ref (F 20))
  f20 : Fun K "leads_to" "leads_to" (top 20) (F 20) (FD 20)
  b20 : Binds K (FD 20) (psOf 20) []
  m30 : mg "parts_within" = some (.ref (F 30))
  f30 : Fun K "parts_within" "parts_within" (top 21) (F 30) (FD 30)
  b30 : Binds K (FD 30) (psOf 30) []
  m31 : mg "parts_of" = some (.ref (F 31))
  f31 : Fun K "parts_of" "parts_of" (top 22) (F 31) (FD 31)
  b31 : Binds K (FD 31) (psOf 31) []
  m32 : mg "_law_parts" = some (.ref (F 32))
  f32 : Fun K "_law_parts" "_law_parts" (top 30) (F 32) (FD 32)
  b32 : Binds K (FD 32) (psOf 32) []
  m33 : mg "law" = some (.ref (F 33))
  f33 : Fun K "law" "law" (top 31) (F 33) (FD 33)
  b33 : Binds K (FD 33) (psOf 33) []
  z_isinstance : mg "isinstance" = none
  z_int : mg "int" = none
  z_bool : mg "bool" = none
  z_len : mg "len" = none
  z_tuple : mg "tuple" = none
  z_range : mg "range" = none
  z_all : mg "all" = none
  z_abs : mg "abs" = none
  z_max : mg "max" = none
  z_min : mg "min" = none
  z_sorted : mg "sorted" = none
  z_list : mg "list" = none
  c0 : mg "LAST_LINE" = some (.int 7 (TK 0))
  c1 : mg "MOST_CELLS" = some (.int 24 (TK 1))
  c2 : mg "LONGEST_LEAP" = some (.int 4 (TK 2))
theorem dd_least : (("least" : Str) == ("__debug__" : Str)) = false := by decide +kernel
theorem dc_least : (("least" : Str) == ("__classdict__" : Str)) = false := by decide +kernel
theorem dd_thing : (("thing" : Str) == ("__debug__" : Str)) = false := by decide +kernel
theorem dc_thing : (("thing" : Str) == ("__classdict__" : Str)) = false := by decide +kernel
theorem dd_most : (("most" : Str) == ("__debug__" : Str)) = false := by decide +kernel
theorem dc_most : (("most" : Str) == ("__classdict__" : Str)) = false := by decide +kernel
theorem dd_int : (("int" : Str) == ("__debug__" : Str)) = false := by decide +kernel
theorem dn_int : ("int" : Str) ≠ "__name__" := by decide +kernel
theorem dd_bool : (("bool" : Str) == ("__debug__" : Str)) = false := by decide +kernel
theorem dn_bool : ("bool" : Str) ≠ "__name__" := by decide +kernel
theorem dd_len : (("len" : Str) == ("__debug__" : Str)) = false := by decide +kernel
theorem dn_len : ("len" : Str) ≠ "__name__" := by decide +kernel
theorem dd_tuple : (("tuple" : Str) == ("__debug__" : Str)) = false := by decide +kernel
theorem dn_tuple : ("tuple" : Str) ≠ "__name__" := by decide +kernel
theorem dd_LAST_LINE : (("LAST_LINE" : Str) == ("__debug__" : Str)) = false := by decide +kernel
theorem dd_is_whole : (("is_whole" : Str) == ("__debug__" : Str)) = false := by decide +kernel
theorem dd_is_couple : (("is_couple" : Str) == ("__debug__" : Str)) = false := by decide +kernel
theorem dd_LONGEST_LEAP : (("LONGEST_LEAP" : Str) == ("__debug__" : Str)) = false := by decide +kernel
theorem dd_cells : (("cells" : Str) == ("__debug__" : Str)) = false := by decide +kernel
theorem dc_cells : (("cells" : Str) == ("__classdict__" : Str)) = false := by decide +kernel
theorem dd_place : (("place" : Str) == ("__debug__" : Str)) = false := by decide +kernel
theorem dc_place : (("place" : Str) == ("__classdict__" : Str)) = false := by decide +kernel
theorem dd_all : (("all" : Str) == ("__debug__" : Str)) = false := by decide +kernel
theorem dn_all : ("all" : Str) ≠ "__name__" := by decide +kernel
theorem dd_is_rising : (("is_rising" : Str) == ("__debug__" : Str)) = false := by decide +kernel
theorem dd_part : (("part" : Str) == ("__debug__" : Str)) = false := by decide +kernel
theorem dc_part : (("part" : Str) == ("__classdict__" : Str)) = false := by decide +kernel
theorem dd_is_cell : (("is_cell" : Str) == ("__debug__" : Str)) = false := by decide +kernel
theorem dd_MOST_CELLS : (("MOST_CELLS" : Str) == ("__debug__" : Str)) = false := by decide +kernel
theorem dd_floor : (("floor" : Str) == ("__debug__" : Str)) = false := by decide +kernel
theorem dc_floor : (("floor" : Str) == ("__classdict__" : Str)) = false := by decide +kernel
theorem dd_is_floor : (("is_floor" : Str) == ("__debug__" : Str)) = false := by decide +kernel
theorem dd_leap : (("leap" : Str) == ("__debug__" : Str)) = false := by decide +kernel
theorem dc_leap : (("leap" : Str) == ("__classdict__" : Str)) = false := by decide +kernel
theorem dd_is_leap : (("is_leap" : Str) == ("__debug__" : Str)) = false := by decide +kernel
theorem dd_right : (("right" : Str) == ("__debug__" : Str)) = false := by decide +kernel
theorem dc_right : (("right" : Str) == ("__classdict__" : Str)) = false := by decide +kernel
theorem dd_abs : (("abs" : Str) == ("__debug__" : Str)) = false := by decide +kernel
theorem dn_abs : ("abs" : Str) ≠ "__name__" := by decide +kernel
theorem dd_down : (("down" : Str) == ("__debug__" : Str)) = false := by decide +kernel
theorem dc_down : (("down" : Str) == ("__classdict__" : Str)) = false := by decide +kernel
theorem dd_max : (("max" : Str) == ("__debug__" : Str)) = false := by decide +kernel
theorem dn_max : ("max" : Str) ≠ "__name__" := by decide +kernel
theorem dd_min : (("min" : Str) == ("__debug__" : Str)) = false := by decide +kernel
theorem dn_min : ("min" : Str) ≠ "__name__" := by decide +kernel
theorem dd_other : (("other" : Str) == ("__debug__" : Str)) = false := by decide +kernel
theorem dc_other : (("other" : Str) == ("__classdict__" : Str)) = false := by decide +kernel
theorem dd_one : (("one" : Str) == ("__debug__" : Str)) = false := by decide +kernel
theorem dc_one : (("one" : Str) == ("__classdict__" : Str)) = false := by decide +kernel
theorem dd_folded : (("folded" : Str) == ("__debug__" : Str)) = false := by decide +kernel
theorem dd_cell : (("cell" : Str) == ("__debug__" : Str)) = false := by decide +kernel
theorem dc_cell : (("cell" : Str) == ("__classdict__" : Str)) = false := by decide +kernel
theorem dd_are_near : (("are_near" : Str) == ("__debug__" : Str)) = false := by decide +kernel
theorem dd_leads : (("leads" : Str) == ("__debug__" : Str)) = false := by decide +kernel
theorem dc_leads : (("leads" : Str) == ("__classdict__" : Str)) = false := by decide +kernel
theorem dd_edge : (("edge" : Str) == ("__debug__" : Str)) = false := by decide +kernel
theorem dc_edge : (("edge" : Str) == ("__classdict__" : Str)) = false := by decide +kernel
theorem dd_further : (("further" : Str) == ("__debug__" : Str)) = false := by decide +kernel
theorem dc_further : (("further" : Str) == ("__classdict__" : Str)) = false := by decide +kernel
theorem dd_cells_near : (("cells_near" : Str) == ("__debug__" : Str)) = false := by decide +kernel
theorem dd_goal : (("goal" : Str) == ("__debug__" : Str)) = false := by decide +kernel
theorem dc_goal : (("goal" : Str) == ("__classdict__" : Str)) = false := by decide +kernel
theorem dd_parts : (("parts" : Str) == ("__debug__" : Str)) = false := by decide +kernel
theorem dc_parts : (("parts" : Str) == ("__classdict__" : Str)) = false := by decide +kernel
theorem dd_placed : (("placed" : Str) == ("__debug__" : Str)) = false := by decide +kernel
theorem dc_placed : (("placed" : Str) == ("__classdict__" : Str)) = false := by decide +kernel
theorem dd_leads_to : (("leads_to" : Str) == ("__debug__" : Str)) = false := by decide +kernel
theorem dd_parts_within : (("parts_within" : Str) == ("__debug__" : Str)) = false := by decide +kernel
theorem dd_checked_leap : (("checked_leap" : Str) == ("__debug__" : Str)) = false := by decide +kernel
theorem dd_checked : (("checked" : Str) == ("__debug__" : Str)) = false := by decide +kernel
theorem dd__law_k : (("_law_k" : Str) == ("__debug__" : Str)) = false := by decide +kernel
theorem dc__law_k : (("_law_k" : Str) == ("__classdict__" : Str)) = false := by decide +kernel
theorem dd__law_script : (("_law_script" : Str) == ("__debug__" : Str)) = false := by decide +kernel
theorem dc__law_script : (("_law_script" : Str) == ("__classdict__" : Str)) = false := by decide +kernel
theorem dd__law_cell_here : (("_law_cell_here" : Str) == ("__debug__" : Str)) = false := by decide +kernel
theorem dc__law_cell_here : (("_law_cell_here" : Str) == ("__classdict__" : Str)) = false := by decide +kernel
theorem dd__law_prime : (("_law_prime" : Str) == ("__debug__" : Str)) = false := by decide +kernel
theorem dc__law_prime : (("_law_prime" : Str) == ("__classdict__" : Str)) = false := by decide +kernel
theorem dd__law_many : (("_law_many" : Str) == ("__debug__" : Str)) = false := by decide +kernel
theorem dc__law_many : (("_law_many" : Str) == ("__classdict__" : Str)) = false := by decide +kernel
theorem dd__law_found : (("_law_found" : Str) == ("__debug__" : Str)) = false := by decide +kernel
theorem dc__law_found : (("_law_found" : Str) == ("__classdict__" : Str)) = false := by decide +kernel
theorem dd__law_most : (("_law_most" : Str) == ("__debug__" : Str)) = false := by decide +kernel
theorem dc__law_most : (("_law_most" : Str) == ("__classdict__" : Str)) = false := by decide +kernel
theorem dd__law_right : (("_law_right" : Str) == ("__debug__" : Str)) = false := by decide +kernel
theorem dc__law_right : (("_law_right" : Str) == ("__classdict__" : Str)) = false := by decide +kernel
theorem dd__law_down : (("_law_down" : Str) == ("__debug__" : Str)) = false := by decide +kernel
theorem dc__law_down : (("_law_down" : Str) == ("__classdict__" : Str)) = false := by decide +kernel
theorem dd__law_rows : (("_law_rows" : Str) == ("__debug__" : Str)) = false := by decide +kernel
theorem dc__law_rows : (("_law_rows" : Str) == ("__classdict__" : Str)) = false := by decide +kernel
theorem dd__law_wide : (("_law_wide" : Str) == ("__debug__" : Str)) = false := by decide +kernel
theorem dc__law_wide : (("_law_wide" : Str) == ("__classdict__" : Str)) = false := by decide +kernel
theorem dd__law_way : (("_law_way" : Str) == ("__debug__" : Str)) = false := by decide +kernel
theorem dc__law_way : (("_law_way" : Str) == ("__classdict__" : Str)) = false := by decide +kernel
theorem dd__law_seed : (("_law_seed" : Str) == ("__debug__" : Str)) = false := by decide +kernel
theorem dc__law_seed : (("_law_seed" : Str) == ("__classdict__" : Str)) = false := by decide +kernel
theorem dd__law_mix : (("_law_mix" : Str) == ("__debug__" : Str)) = false := by decide +kernel
theorem dd__law_c : (("_law_c" : Str) == ("__debug__" : Str)) = false := by decide +kernel
theorem dc__law_c : (("_law_c" : Str) == ("__classdict__" : Str)) = false := by decide +kernel
theorem dd__law_r : (("_law_r" : Str) == ("__debug__" : Str)) = false := by decide +kernel
theorem dc__law_r : (("_law_r" : Str) == ("__classdict__" : Str)) = false := by decide +kernel
theorem dd__law_at : (("_law_at" : Str) == ("__debug__" : Str)) = false := by decide +kernel
theorem dc__law_at : (("_law_at" : Str) == ("__classdict__" : Str)) = false := by decide +kernel
theorem dd__law_cell : (("_law_cell" : Str) == ("__debug__" : Str)) = false := by decide +kernel
theorem dd__law_some : (("_law_some" : Str) == ("__debug__" : Str)) = false := by decide +kernel
theorem dc__law_some : (("_law_some" : Str) == ("__classdict__" : Str)) = false := by decide +kernel
theorem dd__law_one : (("_law_one" : Str) == ("__debug__" : Str)) = false := by decide +kernel
theorem dc__law_one : (("_law_one" : Str) == ("__classdict__" : Str)) = false := by decide +kernel
theorem dd__law_other : (("_law_other" : Str) == ("__debug__" : Str)) = false := by decide +kernel
theorem dc__law_other : (("_law_other" : Str) == ("__classdict__" : Str)) = false := by decide +kernel
theorem dd_sorted : (("sorted" : Str) == ("__debug__" : Str)) = false := by decide +kernel
theorem dn_sorted : ("sorted" : Str) ≠ "__name__" := by decide +kernel
theorem dd__law_leap_here : (("_law_leap_here" : Str) == ("__debug__" : Str)) = false := by decide +kernel
theorem dc__law_leap_here : (("_law_leap_here" : Str) == ("__classdict__" : Str)) = false := by decide +kernel
theorem dd_list : (("list" : Str) == ("__debug__" : Str)) = false := by decide +kernel
theorem dn_list : ("list" : Str) ≠ "__name__" := by decide +kernel
theorem dd__law_floor_here : (("_law_floor_here" : Str) == ("__debug__" : Str)) = false := by decide +kernel
theorem dc__law_floor_here : (("_law_floor_here" : Str) == ("__classdict__" : Str)) = false := by decide +kernel
theorem dd__law_is_near : (("_law_is_near" : Str) == ("__debug__" : Str)) = false := by decide +kernel
theorem dd__law_left : (("_law_left" : Str) == ("__debug__" : Str)) = false := by decide +kernel
theorem dc__law_left : (("_law_left" : Str) == ("__classdict__" : Str)) = false := by decide +kernel
theorem dd__law_part : (("_law_part" : Str) == ("__debug__" : Str)) = false := by decide +kernel
theorem dc__law_part : (("_law_part" : Str) == ("__classdict__" : Str)) = false := by decide +kernel
theorem dd__law_near : (("_law_near" : Str) == ("__debug__" : Str)) = false := by decide +kernel
theorem dd__law_parts : (("_law_parts" : Str) == ("__debug__" : Str)) = false := by decide +kernel
theorem dd_parts_of : (("parts_of" : Str) == ("__debug__" : Str)) = false := by decide +kernel
theorem dd__law_leap : (("_law_leap" : Str) == ("__debug__" : Str)) = false := by decide +kernel
theorem dd__law_floor : (("_law_floor" : Str) == ("__debug__" : Str)) = false := by decide +kernel
theorem sc0 : FnScope ["thing", "least", "most"] ["thing", "least", "most"] (defScope (top 8)) := ⟨rfl, rfl, rfl, by decide +kernel, rfl, by decide +kernel, by decide +kernel⟩
theorem v0_least : Vis (defScope (top 8)) "least" := .inl (by decide +kernel)
theorem v0_thing : Vis (defScope (top 8)) "thing" := .inl (by decide +kernel)
theorem v0_most : Vis (defScope (top 8)) "most" := .inl (by decide +kernel)
theorem g0_isinstance : (defScope (top 8)).names.lookup ("isinstance" : Str) = some .globalImplicit := by decide +kernel
theorem g0_int : (defScope (top 8)).names.lookup ("int" : Str) = some .globalImplicit := by decide +kernel
theorem g0_bool : (defScope (top 8)).names.lookup ("bool" : Str) = some .globalImplicit := by decide +kernel
theorem sc1 : FnScope ["thing"] ["thing"] (defScope (top 9)) := ⟨rfl, rfl, rfl, by decide +kernel, rfl, by decide +kernel, by decide +kernel⟩
theorem v1_thing : Vis (defScope (top 9)) "thing" := .inl (by decide +kernel)
theorem g1_len : (defScope (top 9)).names.lookup ("len" : Str) = some .globalImplicit := by decide +kernel
theorem g1_isinstance : (defScope (top 9)).names.lookup ("isinstance" : Str) = some .globalImplicit := by decide +kernel
theorem g1_tuple : (defScope (top 9)).names.lookup ("tuple" : Str) = some .globalImplicit := by decide +kernel
theorem sc2 : FnScope ["thing"] ["thing"] (defScope (top 10)) := ⟨rfl, rfl, rfl, by decide +kernel, rfl, by decide +kernel, by decide +kernel⟩
theorem v2_thing : Vis (defScope (top 10)) "thing" := .inl (by decide +kernel)
theorem g2_LAST_LINE : (defScope (top 10)).names.lookup ("LAST_LINE" : Str) = some .globalImplicit := by decide +kernel
theorem g2_is_whole : (defScope (top 10)).names.lookup ("is_whole" : Str) = some .globalImplicit := by decide +kernel
theorem g2_is_couple : (defScope (top 10)).names.lookup ("is_couple" : Str) = some .globalImplicit := by decide +kernel
theorem sc3 : FnScope ["thing"] ["thing"] (defScope (top 11)) := ⟨rfl, rfl, rfl, by decide +kernel, rfl, by decide +kernel, by decide +kernel⟩
theorem v3_thing : Vis (defScope (top 11)) "thing" := .inl (by decide +kernel)
theorem g3_is_whole : (defScope (top 11)).names.lookup ("is_whole" : Str) = some .globalImplicit := by decide +kernel
theorem g3_LONGEST_LEAP : (defScope (top 11)).names.lookup ("LONGEST_LEAP" : Str) = some .globalImplicit := by decide +kernel
theorem g3_is_couple : (defScope (top 11)).names.lookup ("is_couple" : Str) = some .globalImplicit := by decide +kernel
theorem sc4 : FnScope ["cells"] ["cells"] (defScope (top 12)) := ⟨rfl, rfl, rfl, by decide +kernel, rfl, by decide +kernel, by decide +kernel⟩
theorem v4_cells : Vis (defScope (top 12)) "cells" := .inr (.inl (by decide +kernel))
theorem g4_len : (defScope (top 12)).names.lookup ("len" : Str) = some .globalImplicit := by decide +kernel
theorem g4_range : (defScope (top 12)).names.lookup ("range" : Str) = some .globalImplicit := by decide +kernel
theorem g4_all : (defScope (top 12)).names.lookup ("all" : Str) = some .globalImplicit := by decide +kernel
theorem sc5 : FnScope ["thing"] ["thing"] (defScope (top 13)) := ⟨rfl, rfl, rfl, by decide +kernel, rfl, by decide +kernel, by decide +kernel⟩
theorem v5_thing : Vis (defScope (top 13)) "thing" := .inl (by decide +kernel)
theorem g5_is_rising : (defScope (top 13)).names.lookup ("is_rising" : Str) = some .globalImplicit := by decide +kernel
theorem g5_all : (defScope (top 13)).names.lookup ("all" : Str) = some .globalImplicit := by decide +kernel
theorem g5_len : (defScope (top 13)).names.lookup ("len" : Str) = some .globalImplicit := by decide +kernel
theorem g5_MOST_CELLS : (defScope (top 13)).names.lookup ("MOST_CELLS" : Str) = some .globalImplicit := by decide +kernel
theorem g5_isinstance : (defScope (top 13)).names.lookup ("isinstance" : Str) = some .globalImplicit := by decide +kernel
theorem g5_tuple : (defScope (top 13)).names.lookup ("tuple" : Str) = some .globalImplicit := by decide +kernel
theorem sc6 : FnScope ["floor"] ["floor"] (defScope (top 14)) := ⟨rfl, rfl, rfl, by decide +kernel, rfl, by decide +kernel, by decide +kernel⟩
theorem v6_floor : Vis (defScope (top 14)) "floor" := .inl (by decide +kernel)
theorem g6_is_floor : (defScope (top 14)).names.lookup ("is_floor" : Str) = some .globalImplicit := by decide +kernel
theorem sc7 : FnScope ["leap"] ["leap"] (defScope (top 15)) := ⟨rfl, rfl, rfl, by decide +kernel, rfl, by decide +kernel, by decide +kernel⟩
theorem v7_leap : Vis (defScope (top 15)) "leap" := .inl (by decide +kernel)
theorem g7_is_leap : (defScope (top 15)).names.lookup ("is_leap" : Str) = some .globalImplicit := by decide +kernel
theorem sc9 : FnScope ["down", "right"] ["down", "right"] (defScope (top 17)) := ⟨rfl, rfl, rfl, by decide +kernel, rfl, by decide +kernel, by decide +kernel⟩
theorem v9_right : Vis (defScope (top 17)) "right" := .inl (by decide +kernel)
theorem v9_down : Vis (defScope (top 17)) "down" := .inl (by decide +kernel)
theorem g9_abs : (defScope (top 17)).names.lookup ("abs" : Str) = some .globalImplicit := by decide +kernel
theorem g9_max : (defScope (top 17)).names.lookup ("max" : Str) = some .globalImplicit := by decide +kernel
theorem g9_min : (defScope (top 17)).names.lookup ("min" : Str) = some .globalImplicit := by decide +kernel
theorem sc10 : FnScope ["leap", "one", "other"] ["leap", "one", "other"] (defScope (top 18)) := ⟨rfl, rfl, rfl, by decide +kernel, rfl, by decide +kernel, by decide +kernel⟩
theorem v10_other : Vis (defScope (top 18)) "other" := .inl (by decide +kernel)
theorem v10_one : Vis (defScope (top 18)) "one" := .inl (by decide +kernel)
theorem v10_leap : Vis (defScope (top 18)) "leap" := .inl (by decide +kernel)
theorem g10_folded : (defScope (top 18)).names.lookup ("folded" : Str) = some .globalImplicit := by decide +kernel
theorem sc11 : FnScope ["floor", "leap", "cell"] ["floor", "leap", "cell"] (defScope (top 19)) := ⟨rfl, rfl, rfl, by decide +kernel, rfl, by decide +kernel, by decide +kernel⟩
theorem v11_floor : Vis (defScope (top 19)) "floor" := .inl (by decide +kernel)
theorem sc13 : FnScope ["_law_script", "_law_k"] ["_law_script", "_law_k"] (defScope (top 24)) := ⟨rfl, rfl, rfl, by decide +kernel, rfl, by decide +kernel, by decide +kernel⟩
theorem v13__law_k : Vis (defScope (top 24)) "_law_k" := .inl (by decide +kernel)
theorem v13__law_script : Vis (defScope (top 24)) "_law_script" := .inl (by decide +kernel)
theorem g13_len : (defScope (top 24)).names.lookup ("len" : Str) = some .globalImplicit := by decide +kernel
theorem sc14 : FnScope ["_law_cell_here", "_law_prime", "_law_many"] ["_law_cell_here", "_law_prime", "_law_many"] (defScope (top 25)) := ⟨rfl, rfl, rfl, by decide +kernel, rfl, by decide +kernel, by decide +kernel⟩
theorem v14__law_cell_here : Vis (defScope (top 25)) "_law_cell_here" := .inl (by decide +kernel)
theorem v14__law_prime : Vis (defScope (top 25)) "_law_prime" := .inl (by decide +kernel)
theorem v14__law_many : Vis (defScope (top 25)) "_law_many" := .inl (by decide +kernel)
theorem sc15 : FnScope ["_law_script", "_law_at", "_law_most", "_law_cell_here", "_law_rows", "_law_wide", "_law_down", "_law_right", "_law_way", "_law_found", "_law_r", "_law_c", "_law_seed"] ["_law_script", "_law_at", "_law_most"] (defScope (top 26)) := ⟨rfl, rfl, rfl, by decide +kernel, rfl, by decide +kernel, by decide +kernel⟩
theorem v15__law_found : Vis (defScope (top 26)) "_law_found" := .inl (by decide +kernel)
theorem v15__law_most : Vis (defScope (top 26)) "_law_most" := .inl (by decide +kernel)
theorem v15__law_right : Vis (defScope (top 26)) "_law_right" := .inl (by decide +kernel)
theorem v15__law_down : Vis (defScope (top 26)) "_law_down" := .inl (by decide +kernel)
theorem v15__law_rows : Vis (defScope (top 26)) "_law_rows" := .inl (by decide +kernel)
theorem v15__law_wide : Vis (defScope (top 26)) "_law_wide" := .inl (by decide +kernel)
theorem v15__law_way : Vis (defScope (top 26)) "_law_way" := .inl (by decide +kernel)
theorem v15__law_seed : Vis (defScope (top 26)) "_law_seed" := .inl (by decide +kernel)
theorem v15__law_c : Vis (defScope (top 26)) "_law_c" := .inl (by decide +kernel)
theorem v15__law_r : Vis (defScope (top 26)) "_law_r" := .inl (by decide +kernel)
theorem v15__law_at : Vis (defScope (top 26)) "_law_at" := .inl (by decide +kernel)
theorem v15__law_script : Vis (defScope (top 26)) "_law_script" := .inl (by decide +kernel)
theorem v15__law_cell_here : Vis (defScope (top 26)) "_law_cell_here" := .inl (by decide +kernel)
theorem l15__law_found : Loc (defScope (top 26)) "_law_found" := .inl (by decide +kernel)
theorem l15__law_seed : Loc (defScope (top 26)) "_law_seed" := .inl (by decide +kernel)
theorem l15__law_c : Loc (defScope (top 26)) "_law_c" := .inl (by decide +kernel)
theorem l15__law_r : Loc (defScope (top 26)) "_law_r" := .inl (by decide +kernel)
theorem l15__law_way : Loc (defScope (top 26)) "_law_way" := .inl (by decide +kernel)
theorem l15__law_right : Loc (defScope (top 26)) "_law_right" := .inl (by decide +kernel)
theorem l15__law_down : Loc (defScope (top 26)) "_law_down" := .inl (by decide +kernel)
theorem l15__law_wide : Loc (defScope (top 26)) "_law_wide" := .inl (by decide +kernel)
theorem l15__law_rows : Loc (defScope (top 26)) "_law_rows" := .inl (by decide +kernel)
theorem l15__law_cell_here : Loc (defScope (top 26)) "_law_cell_here" := .inl (by decide +kernel)
theorem g15_tuple : (defScope (top 26)).names.lookup ("tuple" : Str) = some .globalImplicit := by decide +kernel
theorem g15_range : (defScope (top 26)).names.lookup ("range" : Str) = some .globalImplicit := by decide +kernel
theorem g15__law_mix : (defScope (top 26)).names.lookup ("_law_mix" : Str) = some .globalImplicit := by decide +kernel
theorem g15__law_cell : (defScope (top 26)).names.lookup ("_law_cell" : Str) = some .globalImplicit := by decide +kernel
theorem sc16 : FnScope ["_law_cell_here", "_law_some"] ["_law_cell_here"] (defScope (top 27)) := ⟨rfl, rfl, rfl, by decide +kernel, rfl, by decide +kernel, by decide +kernel⟩
theorem v16__law_some : Vis (defScope (top 27)) "_law_some" := .inl (by decide +kernel)
theorem v16__law_cell_here : Vis (defScope (top 27)) "_law_cell_here" := .inl (by decide +kernel)
theorem l16__law_some : Loc (defScope (top 27)) "_law_some" := .inl (by decide +kernel)
theorem sc17 : FnScope ["_law_leap_here", "_law_one", "_law_other"] ["_law_leap_here", "_law_one", "_law_other"] (defScope (top 28)) := ⟨rfl, rfl, rfl, by decide +kernel, rfl, by decide +kernel, by decide +kernel⟩
theorem v17__law_one : Vis (defScope (top 28)) "_law_one" := .inl (by decide +kernel)
theorem v17__law_other : Vis (defScope (top 28)) "_law_other" := .inl (by decide +kernel)
theorem v17__law_leap_here : Vis (defScope (top 28)) "_law_leap_here" := .inl (by decide +kernel)
theorem g17_abs : (defScope (top 28)).names.lookup ("abs" : Str) = some .globalImplicit := by decide +kernel
theorem g17_sorted : (defScope (top 28)).names.lookup ("sorted" : Str) = some .globalImplicit := by decide +kernel
theorem g17_list : (defScope (top 28)).names.lookup ("list" : Str) = some .globalImplicit := by decide +kernel
theorem sc18 : FnScope ["_law_floor_here", "_law_leap_here", "_law_cell_here"] ["_law_floor_here", "_law_leap_here", "_law_cell_here"] (defScope (top 29)) := ⟨rfl, rfl, rfl, by decide +kernel, rfl, by decide +kernel, by decide +kernel⟩
theorem v18__law_floor_here : Vis (defScope (top 29)) "_law_floor_here" := .inl (by decide +kernel)
theorem sc20 : FnScope ["floor", "leap", "goal", "leads", "edge", "further", "cell", "other"] ["floor", "leap", "goal"] (defScope (top 20)) := ⟨rfl, rfl, rfl, by decide +kernel, rfl, by decide +kernel, by decide +kernel⟩
theorem v20_leads : Vis (defScope (top 20)) "leads" := .inl (by decide +kernel)
theorem v20_edge : Vis (defScope (top 20)) "edge" := .inl (by decide +kernel)
theorem v20_further : Vis (defScope (top 20)) "further" := .inl (by decide +kernel)
theorem v20_cell : Vis (defScope (top 20)) "cell" := .inl (by decide +kernel)
theorem v20_leap : Vis (defScope (top 20)) "leap" := .inl (by decide +kernel)
theorem v20_floor : Vis (defScope (top 20)) "floor" := .inl (by decide +kernel)
theorem v20_other : Vis (defScope (top 20)) "other" := .inl (by decide +kernel)
theorem v20_goal : Vis (defScope (top 20)) "goal" := .inl (by decide +kernel)
theorem l20_edge : Loc (defScope (top 20)) "edge" := .inl (by decide +kernel)
theorem l20_other : Loc (defScope (top 20)) "other" := .inl (by decide +kernel)
theorem l20_cell : Loc (defScope (top 20)) "cell" := .inl (by decide +kernel)
theorem l20_further : Loc (defScope (top 20)) "further" := .inl (by decide +kernel)
theorem l20_leads : Loc (defScope (top 20)) "leads" := .inl (by decide +kernel)
theorem g20_len : (defScope (top 20)).names.lookup ("len" : Str) = some .globalImplicit := by decide +kernel
theorem g20_cells_near : (defScope (top 20)).names.lookup ("cells_near" : Str) = some .globalImplicit := by decide +kernel
theorem sc30 : FnScope ["cells", "leap", "parts", "placed", "cell", "leads"] ["cells", "leap"] (defScope (top 21)) := ⟨rfl, rfl, rfl, by decide +kernel, rfl, by decide +kernel, by decide +kernel⟩
theorem v30_parts : Vis (defScope (top 21)) "parts" := .inl (by decide +kernel)
theorem v30_cell : Vis (defScope (top 21)) "cell" := .inl (by decide +kernel)
theorem v30_placed : Vis (defScope (top 21)) "placed" := .inl (by decide +kernel)
theorem v30_leads : Vis (defScope (top 21)) "leads" := .inl (by decide +kernel)
theorem v30_leap : Vis (defScope (top 21)) "leap" := .inl (by decide +kernel)
theorem v30_cells : Vis (defScope (top 21)) "cells" := .inl (by decide +kernel)
theorem l30_leads : Loc (defScope (top 21)) "leads" := .inl (by decide +kernel)
theorem l30_cell : Loc (defScope (top 21)) "cell" := .inl (by decide +kernel)
theorem l30_placed : Loc (defScope (top 21)) "placed" := .inl (by decide +kernel)
theorem l30_parts : Loc (defScope (top 21)) "parts" := .inl (by decide +kernel)
theorem g30_sorted : (defScope (top 21)).names.lookup ("sorted" : Str) = some .globalImplicit := by decide +kernel
theorem g30_leads_to : (defScope (top 21)).names.lookup ("leads_to" : Str) = some .globalImplicit := by decide +kernel
theorem sc31 : FnScope ["floor", "leap"] ["floor", "leap"] (defScope (top 22)) := ⟨rfl, rfl, rfl, by decide +kernel, rfl, by decide +kernel, by decide +kernel⟩
theorem v31_leap : Vis (defScope (top 22)) "leap" := .inl (by decide +kernel)
theorem v31_floor : Vis (defScope (top 22)) "floor" := .inl (by decide +kernel)
theorem g31_parts_within : (defScope (top 22)).names.lookup ("parts_within" : Str) = some .globalImplicit := by decide +kernel
theorem g31_checked_leap : (defScope (top 22)).names.lookup ("checked_leap" : Str) = some .globalImplicit := by decide +kernel
theorem g31_checked : (defScope (top 22)).names.lookup ("checked" : Str) = some .globalImplicit := by decide +kernel
theorem sc32 : FnScope ["_law_floor_here", "_law_leap_here", "_law_found", "_law_left", "_law_part", "_law_at"] ["_law_floor_here", "_law_leap_here"] (defScope (top 30)) := ⟨rfl, rfl, rfl, by decide +kernel, rfl, by decide +kernel, by decide +kernel⟩
theorem v32__law_found : Vis (defScope (top 30)) "_law_found" := .inl (by decide +kernel)
theorem v32__law_left : Vis (defScope (top 30)) "_law_left" := .inl (by decide +kernel)
theorem v32__law_part : Vis (defScope (top 30)) "_law_part" := .inr (.inl (by decide +kernel))
theorem v32__law_at : Vis (defScope (top 30)) "_law_at" := .inl (by decide +kernel)
theorem v32__law_leap_here : Vis (defScope (top 30)) "_law_leap_here" := .inl (by decide +kernel)
theorem v32__law_floor_here : Vis (defScope (top 30)) "_law_floor_here" := .inl (by decide +kernel)
theorem l32__law_at : Loc (defScope (top 30)) "_law_at" := .inl (by decide +kernel)
theorem l32__law_part : Loc (defScope (top 30)) "_law_part" := .inr (by decide +kernel)
theorem l32__law_left : Loc (defScope (top 30)) "_law_left" := .inl (by decide +kernel)
theorem l32__law_found : Loc (defScope (top 30)) "_law_found" := .inl (by decide +kernel)
theorem ll32__law_left : (defScope (top 30)).names.lookup ("_law_left" : Str) = some .local := by decide +kernel
theorem g32_sorted : (defScope (top 30)).names.lookup ("sorted" : Str) = some .globalImplicit := by decide +kernel
theorem g32_len : (defScope (top 30)).names.lookup ("len" : Str) = some .globalImplicit := by decide +kernel
theorem g32__law_near : (defScope (top 30)).names.lookup ("_law_near" : Str) = some .globalImplicit := by decide +kernel
theorem g32_list : (defScope (top 30)).names.lookup ("list" : Str) = some .globalImplicit := by decide +kernel
theorem sc33 : FnScope ["_law_script", "_law_floor_here", "_law_leap_here", "_law_found"] ["_law_script"] (defScope (top 31)) := ⟨rfl, rfl, rfl, by decide +kernel, rfl, by decide +kernel, by decide +kernel⟩
theorem v33__law_found : Vis (defScope (top 31)) "_law_found" := .inl (by decide +kernel)
theorem v33__law_leap_here : Vis (defScope (top 31)) "_law_leap_here" := .inl (by decide +kernel)
theorem v33__law_floor_here : Vis (defScope (top 31)) "_law_floor_here" := .inl (by decide +kernel)
theorem v33__law_script : Vis (defScope (top 31)) "_law_script" := .inl (by decide +kernel)
theorem l33__law_found : Loc (defScope (top 31)) "_law_found" := .inl (by decide +kernel)
theorem l33__law_leap_here : Loc (defScope (top 31)) "_law_leap_here" := .inl (by decide +kernel)
theorem l33__law_floor_here : Loc (defScope (top 31)) "_law_floor_here" := .inl (by decide +kernel)
theorem g33__law_parts : (defScope (top 31)).names.lookup ("_law_parts" : Str) = some .globalImplicit := by decide +kernel
theorem g33_isinstance : (defScope (top 31)).names.lookup ("isinstance" : Str) = some .globalImplicit := by decide +kernel
theorem g33_list : (defScope (top 31)).names.lookup ("list" : Str) = some .globalImplicit := by decide +kernel
theorem g33_parts_of : (defScope (top 31)).names.lookup ("parts_of" : Str) = some .globalImplicit := by decide +kernel
theorem g33__law_cell : (defScope (top 31)).names.lookup ("_law_cell" : Str) = some .globalImplicit := by decide +kernel
theorem g33__law_leap : (defScope (top 31)).names.lookup ("_law_leap" : Str) = some .globalImplicit := by decide +kernel
theorem g33__law_floor : (defScope (top 31)).names.lookup ("_law_floor" : Str) = some .globalImplicit := by decide +kernel
section
variable {Pg : Program} {w : World} {K : PySem.W.Frag} {mg : Str → Option Value} {base : Heap} {F : Nat → Addr} {FD : Nat → FuncData} {TK : Nat → Tok} {n fuel : Nat}
theorem body0 (T : Txt K mg F FD TK) (hall : ∀ i, FnOk Pg w K mg base CX0 n (F i) (FD i) (psOf i) (spA K (callA U fuel n) i (ioOf i))) (cdv : Value) (A : Around) (outer : List PySem.Env) (s : Shared) (H : Hp) (E : XK)
    (hr : Room n (A.deeper (envOfC "is_whole" (defScope (top 8)) s.heap.objs.size (F 0) cdv))) :
    ISs (cxOf CX0 Pg w K mg base ["thing", "least", "most"] "is_whole" (defScope (top 8)) (F 0) cdv A outer s H E).nox (exSs (callA U fuel n) fuel ir0) (defBody (top 8)) :=
  (ss_cons (s_if (IW.t (t_or (t_val (i_inst (t := .bool) g0_isinstance T.z_isinstance g0_bool T.z_bool PyProof.Rows.boot_bool (i_var 0 rfl v0_thing dd_thing dc_thing) dn_bool dd_bool star_Name star_Name (sa_cons star_Name sa_nil)) (ev_prim _ _) it_Call) (t_or1 (t_not (t_val (i_inst (t := .int) g0_isinstance T.z_isinstance g0_int T.z_int PyProof.Rows.boot_int (i_var 0 rfl v0_thing dd_thing dc_thing) dn_int dd_int star_Name star_Name (sa_cons star_Name sa_nil)) (ev_prim _ _) it_Call))))) (ss_cons (s_ret i_bl)
    ss_nil) ss_nil)
    (ss_cons (s_ret (i_chain vr_le vr_le (i_var 1 rfl v0_least dd_least dc_least) (i_var 0 rfl v0_thing dd_thing dc_thing) (i_var 2 rfl v0_most dd_most dc_most)))
    ss_nil))
theorem body1 (T : Txt K mg F FD TK) (hall : ∀ i, FnOk Pg w K mg base CX0 n (F i) (FD i) (psOf i) (spA K (callA U fuel n) i (ioOf i))) (cdv : Value) (A : Around) (outer : List PySem.Env) (s : Shared) (H : Hp) (E : XK)
    (hr : Room n (A.deeper (envOfC "is_couple" (defScope (top 9)) s.heap.objs.size (F 1) cdv))) :
    ISs (cxOf CX0 Pg w K mg base ["thing"] "is_couple" (defScope (top 9)) (F 1) cdv A outer s H E).nox (exSs (callA U fuel n) fuel ir1) (defBody (top 9)) :=
  (ss_cons (s_ret (i_and (i_inst (t := .tuple) g1_isinstance T.z_isinstance g1_tuple T.z_tuple PyProof.Rows.boot_tuple (i_var 0 rfl v1_thing dd_thing dc_thing) dn_tuple dd_tuple star_Name star_Name (sa_cons star_Name sa_nil)) (i_one (i_cmp (vr_eq hr.units) (i_callB vr_len g1_len T.z_len PySem.boot_len (i_cons (i_var 0 rfl v1_thing dd_thing dc_thing) i_nil star_Name) dn_len dd_len star_Name sa_nil) i_int (nomark _)))))
    ss_nil)
theorem body2 (T : Txt K mg F FD TK) (hall : ∀ i, FnOk Pg w K mg base CX0 n (F i) (FD i) (psOf i) (spA K (callA U fuel n) i (ioOf i))) (cdv : Value) (A : Around) (outer : List PySem.Env) (s : Shared) (H : Hp) (E : XK)
    (hr : Room n (A.deeper (envOfC "is_cell" (defScope (top 10)) s.heap.objs.size (F 2) cdv))) :
    ISs (cxOf CX0 Pg w K mg base ["thing"] "is_cell" (defScope (top 10)) (F 2) cdv A outer s H E).nox (exSs (callA U fuel n) fuel ir2) (defBody (top 10)) :=
  (ss_cons (s_ret (i_and (i_call (pure_ok (hall 1) rfl) hr g2_is_couple T.m1 T.f1.kp (T.b1) (i_cons (i_var 0 rfl v2_thing dd_thing dc_thing) i_nil star_Name) dd_is_couple star_Name sa_nil) (i_and (i_call (pure_ok (hall 0) rfl) hr g2_is_whole T.m0 T.f0.kp (T.b0) (i_cons (i_ix hr.units (i_var 0 rfl v2_thing dd_thing dc_thing) i_int (fun _ _ => rfl)) (i_cons i_int (i_cons (i_globI g2_LAST_LINE T.c0 dd_LAST_LINE) i_nil star_Name) star_Constant) star_Subscript) dd_is_whole star_Subscript (sa_cons star_Constant (sa_cons star_Name sa_nil))) (i_one (i_call (pure_ok (hall 0) rfl) hr g2_is_whole T.m0 T.f0.kp (T.b0) (i_cons (i_ix hr.units (i_var 0 rfl v2_thing dd_thing dc_thing) i_int (fun _ _ => rfl)) (i_cons i_int (i_cons (i_globI g2_LAST_LINE T.c0 dd_LAST_LINE) i_nil star_Name) star_Constant) star_Subscript) dd_is_whole star_Subscript (sa_cons star_Constant (sa_cons star_Name sa_nil)))))))
    ss_nil)
theorem body3 (T : Txt K mg F FD TK) (hall : ∀ i, FnOk Pg w K mg base CX0 n (F i) (FD i) (psOf i) (spA K (callA U fuel n) i (ioOf i))) (cdv : Value) (A : Around) (outer : List PySem.Env) (s : Shared) (H : Hp) (E : XK)
    (hr : Room n (A.deeper (envOfC "is_leap" (defScope (top 11)) s.heap.objs.size (F 3) cdv))) :
    ISs (cxOf CX0 Pg w K mg base ["thing"] "is_leap" (defScope (top 11)) (F 3) cdv A outer s H E).nox (exSs (callA U fuel n) fuel ir3) (defBody (top 11)) :=
  (ss_cons (s_ret (i_and (i_call (pure_ok (hall 1) rfl) hr g3_is_couple T.m1 T.f1.kp (T.b1) (i_cons (i_var 0 rfl v3_thing dd_thing dc_thing) i_nil star_Name) dd_is_couple star_Name sa_nil) (i_and (i_call (pure_ok (hall 0) rfl) hr g3_is_whole T.m0 T.f0.kp (T.b0) (i_cons (i_ix hr.units (i_var 0 rfl v3_thing dd_thing dc_thing) i_int (fun _ _ => rfl)) (i_cons i_int (i_cons (i_globI g3_LONGEST_LEAP T.c2 dd_LONGEST_LEAP) i_nil star_Name) star_Constant) star_Subscript) dd_is_whole star_Subscript (sa_cons star_Constant (sa_cons star_Name sa_nil))) (i_one (i_call (pure_ok (hall 0) rfl) hr g3_is_whole T.m0 T.f0.kp (T.b0) (i_cons (i_ix hr.units (i_var 0 rfl v3_thing dd_thing dc_thing) i_int (fun _ _ => rfl)) (i_cons i_int (i_cons (i_ix hr.units (i_var 0 rfl v3_thing dd_thing dc_thing) i_int (fun _ _ => rfl)) i_nil star_Subscript) star_Constant) star_Subscript) dd_is_whole star_Subscript (sa_cons star_Constant (sa_cons star_Subscript sa_nil)))))))
    ss_nil)
theorem body4 (T : Txt K mg F FD TK) (hall : ∀ i, FnOk Pg w K mg base CX0 n (F i) (FD i) (psOf i) (spA K (callA U fuel n) i (ioOf i))) (cdv : Value) (A : Around) (outer : List PySem.Env) (s : Shared) (H : Hp) (E : XK)
    (hr : Room n (A.deeper (envOfC "is_rising" (defScope (top 12)) s.heap.objs.size (F 4) cdv))) :
    ISs (cxOf CX0 Pg w K mg base ["cells"] "is_rising" (defScope (top 12)) (F 4) cdv A outer s H E).nox (exSs (callA U fuel n) fuel ir4) (defBody (top 12)) :=
  (ss_cons (s_ret (i_callB (vr_all rfl) g4_all T.z_all (by decide +kernel) (i_cons (i_comp rfl (compSc (sc := defScope (top 12)) (N := ["cells"]) rfl rfl (by decide +kernel)) (src_rng2 g4_range T.z_range (i_cons i_int (i_cons (i_callB vr_len g4_len T.z_len PySem.boot_len (i_cons (i_var 0 rfl v4_cells dd_cells dc_cells) i_nil star_Name) dn_len dd_len star_Name sa_nil) i_nil star_Call) star_Constant) star_Constant star_Call) (.inl ⟨rfl, rfl⟩) (fun _ _ _ _ => (i_cmp (vr_lt hr.units) (i_ix hr.units (i_var 1 rfl (vis_free (by decide +kernel)) dd_cells dc_cells) (i_op vr_sub (i_var 0 rfl (vis_loc (by decide +kernel)) dd_place dc_place) i_int) (fun _ _ => rfl)) (i_ix hr.units (i_var 1 rfl (vis_free (by decide +kernel)) dd_cells dc_cells) (i_var 0 rfl (vis_loc (by decide +kernel)) dd_place dc_place) (fun _ _ => rfl)) (nomark _)))) i_nil star_ListComp) dn_all dd_all star_ListComp sa_nil))
    ss_nil)
theorem body5 (T : Txt K mg F FD TK) (hall : ∀ i, FnOk Pg w K mg base CX0 n (F i) (FD i) (psOf i) (spA K (callA U fuel n) i (ioOf i))) (cdv : Value) (A : Around) (outer : List PySem.Env) (s : Shared) (H : Hp) (E : XK)
    (hr : Room n (A.deeper (envOfC "is_floor" (defScope (top 13)) s.heap.objs.size (F 5) cdv))) :
    ISs (cxOf CX0 Pg w K mg base ["thing"] "is_floor" (defScope (top 13)) (F 5) cdv A outer s H E).nox (exSs (callA U fuel n) fuel ir5) (defBody (top 13)) :=
  (ss_cons (s_if (IW.t (t_or (t_not (t_val (i_inst (t := .tuple) g5_isinstance T.z_isinstance g5_tuple T.z_tuple PyProof.Rows.boot_tuple (i_var 0 rfl v5_thing dd_thing dc_thing) dn_tuple dd_tuple star_Name star_Name (sa_cons star_Name sa_nil)) (ev_prim _ _) it_Call)) (t_or1 (t_not (t_chain rfl rfl vr_le vr_le i_int (i_callB vr_len g5_len T.z_len PySem.boot_len (i_cons (i_var 0 rfl v5_thing dd_thing dc_thing) i_nil star_Name) dn_len dd_len star_Name sa_nil) (i_globI g5_MOST_CELLS T.c1 dd_MOST_CELLS)))))) (ss_cons (s_ret i_bl)
    ss_nil) ss_nil)
    (ss_cons (s_ret (i_and (i_callB (vr_all rfl) g5_all T.z_all (by decide +kernel) (i_cons (i_comp rfl (compSc (sc := defScope (top 13)) (N := ["thing"]) rfl rfl (by decide +kernel)) (src_seq (i_var 0 rfl v5_thing dd_thing dc_thing)) (.inl ⟨rfl, rfl⟩) (fun _ _ _ _ => (i_call (pure_ok (hall 2) rfl) hr (gl_comp (by decide +kernel)) T.m2 T.f2.kp (T.b2) (i_cons (i_var 0 rfl (vis_loc (by decide +kernel)) dd_part dc_part) i_nil star_Name) dd_is_cell star_Name sa_nil))) i_nil star_ListComp) dn_all dd_all star_ListComp sa_nil) (i_one (i_call (pure_ok (hall 4) rfl) hr g5_is_rising T.m4 T.f4.kp (T.b4) (i_cons (i_var 0 rfl v5_thing dd_thing dc_thing) i_nil star_Name) dd_is_rising star_Name sa_nil))))
    ss_nil))
theorem body6 (T : Txt K mg F FD TK) (hall : ∀ i, FnOk Pg w K mg base CX0 n (F i) (FD i) (psOf i) (spA K (callA U fuel n) i (ioOf i))) (cdv : Value) (A : Around) (outer : List PySem.Env) (s : Shared) (H : Hp) (E : XK)
    (hr : Room n (A.deeper (envOfC "checked" (defScope (top 14)) s.heap.objs.size (F 6) cdv))) :
    ISs (cxOf CX0 Pg w K mg base ["floor"] "checked" (defScope (top 14)) (F 6) cdv A outer s H E).nox (exSs (callA U fuel n) fuel ir6) (defBody (top 14)) :=
  (ss_cons (s_if (t_not (t_val (i_call (pure_ok (hall 5) rfl) hr g6_is_floor T.m5 T.f5.kp (T.b5) (i_cons (i_var 0 rfl v6_floor dd_floor dc_floor) i_nil star_Name) dd_is_floor star_Name sa_nil) (ev_call _ _) it_Call)) (ss_cons s_stop
    ss_nil) ss_nil)
    (ss_cons (s_retV 0 rfl v6_floor dd_floor dc_floor)
    ss_nil))
theorem body7 (T : Txt K mg F FD TK) (hall : ∀ i, FnOk Pg w K mg base CX0 n (F i) (FD i) (psOf i) (spA K (callA U fuel n) i (ioOf i))) (cdv : Value) (A : Around) (outer : List PySem.Env) (s : Shared) (H : Hp) (E : XK)
    (hr : Room n (A.deeper (envOfC "checked_leap" (defScope (top 15)) s.heap.objs.size (F 7) cdv))) :
    ISs (cxOf CX0 Pg w K mg base ["leap"] "checked_leap" (defScope (top 15)) (F 7) cdv A outer s H E).nox (exSs (callA U fuel n) fuel ir7) (defBody (top 15)) :=
  (ss_cons (s_if (t_not (t_val (i_call (pure_ok (hall 3) rfl) hr g7_is_leap T.m3 T.f3.kp (T.b3) (i_cons (i_var 0 rfl v7_leap dd_leap dc_leap) i_nil star_Name) dd_is_leap star_Name sa_nil) (ev_call _ _) it_Call)) (ss_cons s_stop
    ss_nil) ss_nil)
    (ss_cons (s_retV 0 rfl v7_leap dd_leap dc_leap)
    ss_nil))
theorem body9 (T : Txt K mg F FD TK) (hall : ∀ i, FnOk Pg w K mg base CX0 n (F i) (FD i) (psOf i) (spA K (callA U fuel n) i (ioOf i))) (cdv : Value) (A : Around) (outer : List PySem.Env) (s : Shared) (H : Hp) (E : XK)
    (hr : Room n (A.deeper (envOfC "folded" (defScope (top 17)) s.heap.objs.size (F 9) cdv))) :
    ISs (cxOf CX0 Pg w K mg base ["down", "right"] "folded" (defScope (top 17)) (F 9) cdv A outer s H E).nox (exSs (callA U fuel n) fuel ir9) (defBody (top 17)) :=
  (ss_cons (s_ret (i_tup (i_cons (i_callB (vr_min2 rfl) g9_min T.z_min PyProof.Rows.boot_min (i_cons (i_callB vr_abs g9_abs T.z_abs (by decide +kernel) (i_cons (i_var 0 rfl v9_down dd_down dc_down) i_nil star_Name) dn_abs dd_abs star_Name sa_nil) (i_cons (i_callB vr_abs g9_abs T.z_abs (by decide +kernel) (i_cons (i_var 1 rfl v9_right dd_right dc_right) i_nil star_Name) dn_abs dd_abs star_Name sa_nil) i_nil star_Call) star_Call) dn_min dd_min star_Call (sa_cons star_Call sa_nil)) (i_cons (i_callB (vr_max2 rfl) g9_max T.z_max PyProof.Rows.boot_max (i_cons (i_callB vr_abs g9_abs T.z_abs (by decide +kernel) (i_cons (i_var 0 rfl v9_down dd_down dc_down) i_nil star_Name) dn_abs dd_abs star_Name sa_nil) (i_cons (i_callB vr_abs g9_abs T.z_abs (by decide +kernel) (i_cons (i_var 1 rfl v9_right dd_right dc_right) i_nil star_Name) dn_abs dd_abs star_Name sa_nil) i_nil star_Call) star_Call) dn_max dd_max star_Call (sa_cons star_Call sa_nil)) i_nil star_Call) star_Call)))
    ss_nil)
theorem body10 (T : Txt K mg F FD TK) (hall : ∀ i, FnOk Pg w K mg base CX0 n (F i) (FD i) (psOf i) (spA K (callA U fuel n) i (ioOf i))) (cdv : Value) (A : Around) (outer : List PySem.Env) (s : Shared) (H : Hp) (E : XK)
    (hr : Room n (A.deeper (envOfC "are_near" (defScope (top 18)) s.heap.objs.size (F 10) cdv))) :
    ISs (cxOf CX0 Pg w K mg base ["leap", "one", "other"] "are_near" (defScope (top 18)) (F 10) cdv A outer s H E).nox (exSs (callA U fuel n) fuel ir10) (defBody (top 18)) :=
  (ss_cons (s_ret (i_cmp (vr_eq hr.units) (i_call (pure_ok (hall 9) rfl) hr g10_folded T.m9 T.f9.kp (T.b9) (i_cons (i_op vr_sub (i_ix hr.units (i_var 2 rfl v10_other dd_other dc_other) i_int (fun _ _ => rfl)) (i_ix hr.units (i_var 1 rfl v10_one dd_one dc_one) i_int (fun _ _ => rfl))) (i_cons (i_op vr_sub (i_ix hr.units (i_var 2 rfl v10_other dd_other dc_other) i_int (fun _ _ => rfl)) (i_ix hr.units (i_var 1 rfl v10_one dd_one dc_one) i_int (fun _ _ => rfl))) i_nil star_BinOp) star_BinOp) dd_folded star_BinOp (sa_cons star_BinOp sa_nil)) (i_var 0 rfl v10_leap dd_leap dc_leap) (nomark _)))
    ss_nil)
theorem body11 (T : Txt K mg F FD TK) (hall : ∀ i, FnOk Pg w K mg base CX0 n (F i) (FD i) (psOf i) (spA K (callA U fuel n) i (ioOf i))) (cdv : Value) (A : Around) (outer : List PySem.Env) (s : Shared) (H : Hp) (E : XK)
    (hr : Room n (A.deeper (envOfC "cells_near" (defScope (top 19)) s.heap.objs.size (F 11) cdv))) :
    ISs (cxOf CX0 Pg w K mg base ["floor", "leap", "cell"] "cells_near" (defScope (top 19)) (F 11) cdv A outer s H E).nox (exSs (callA U fuel n) fuel ir11) (defBody (top 19)) :=
  (ss_cons (s_ret (i_comp rfl (compSc (sc := defScope (top 19)) (N := ["floor", "leap", "cell"]) rfl rfl (by decide +kernel)) (src_seq (i_var 0 rfl v11_floor dd_floor dc_floor)) (.inr ⟨_, rfl, fun _ _ _ _ => (t_val (i_call (pure_ok (hall 10) rfl) hr (gl_comp (by decide +kernel)) T.m10 T.f10.kp (T.b10) (i_cons (i_var 2 rfl (vis_free (by decide +kernel)) dd_leap dc_leap) (i_cons (i_var 3 rfl (vis_free (by decide +kernel)) dd_cell dc_cell) (i_cons (i_var 0 rfl (vis_loc (by decide +kernel)) dd_other dc_other) i_nil star_Name) star_Name) star_Name) dd_are_near star_Name (sa_cons star_Name (sa_cons star_Name sa_nil))) (ev_call _ _) it_Call)⟩) (fun _ _ _ _ => (i_var 0 rfl (vis_loc (by decide +kernel)) dd_other dc_other))))
    ss_nil)
theorem body13 (T : Txt K mg F FD TK) (hall : ∀ i, FnOk Pg w K mg base CX0 n (F i) (FD i) (psOf i) (spA K (callA U fuel n) i (ioOf i))) (cdv : Value) (A : Around) (outer : List PySem.Env) (s : Shared) (H : Hp) (E : XK)
    (hr : Room n (A.deeper (envOfC "_law_cell" (defScope (top 24)) s.heap.objs.size (F 13) cdv))) :
    ISs (cxOf CX0 Pg w K mg base ["_law_script", "_law_k"] "_law_cell" (defScope (top 24)) (F 13) cdv A outer s H E).nox (exSs (callA U fuel n) fuel ir13) (defBody (top 24)) :=
  (ss_cons (s_if (t_cmp rfl (vr_lt hr.units) (i_var 1 rfl v13__law_k dd__law_k dc__law_k) (i_callB vr_len g13_len T.z_len PySem.boot_len (i_cons (i_var 0 rfl v13__law_script dd__law_script dc__law_script) i_nil star_Name) dn_len dd_len star_Name sa_nil) (nomark _)) (ss_cons (s_ret (i_ix hr.units (i_var 0 rfl v13__law_script dd__law_script dc__law_script) (i_var 1 rfl v13__law_k dd__law_k dc__law_k) (fun _ _ => rfl)))
    ss_nil) ss_nil)
    (ss_cons (s_ret i_int)
    ss_nil))
theorem body14 (T : Txt K mg F FD TK) (hall : ∀ i, FnOk Pg w K mg base CX0 n (F i) (FD i) (psOf i) (spA K (callA U fuel n) i (ioOf i))) (cdv : Value) (A : Around) (outer : List PySem.Env) (s : Shared) (H : Hp) (E : XK)
    (hr : Room n (A.deeper (envOfC "_law_mix" (defScope (top 25)) s.heap.objs.size (F 14) cdv))) :
    ISs (cxOf CX0 Pg w K mg base ["_law_cell_here", "_law_prime", "_law_many"] "_law_mix" (defScope (top 25)) (F 14) cdv A outer s H E).nox (exSs (callA U fuel n) fuel ir14) (defBody (top 25)) :=
  (ss_cons (s_ret (i_op vr_mod (i_op vr_mod (i_op vr_mul (i_var 0 rfl v14__law_cell_here dd__law_cell_here dc__law_cell_here) i_int) (i_var 1 rfl v14__law_prime dd__law_prime dc__law_prime)) (i_var 2 rfl v14__law_many dd__law_many dc__law_many)))
    ss_nil)
theorem body15 (T : Txt K mg F FD TK) (hall : ∀ i, FnOk Pg w K mg base CX0 n (F i) (FD i) (psOf i) (spA K (callA U fuel n) i (ioOf i))) (cdv : Value) (A : Around) (outer : List PySem.Env) (s : Shared) (H : Hp) (E : XK)
    (hr : Room n (A.deeper (envOfC "_law_floor" (defScope (top 26)) s.heap.objs.size (F 15) cdv))) :
    ISs (cxOf CX0 Pg w K mg base ["_law_script", "_law_at", "_law_most", "_law_cell_here", "_law_rows", "_law_wide", "_law_down", "_law_right", "_law_way", "_law_found", "_law_r", "_law_c", "_law_seed"] "_law_floor" (defScope (top 26)) (F 15) cdv A outer s H E).nox (exSs (callA U fuel n) fuel ir15) (defBody (top 26)) :=
  (ss_cons (s_asg 3 sc15.nd rfl l15__law_cell_here (i_call (pure_ok (hall 13) rfl) hr g15__law_cell T.m13 T.f13.kp (T.b13) (i_cons (i_var 0 rfl v15__law_script dd__law_script dc__law_script) (i_cons (i_var 1 rfl v15__law_at dd__law_at dc__law_at) i_nil star_Name) star_Name) dd__law_cell star_Name (sa_cons star_Name sa_nil)))
    (ss_cons (s_asg 4 sc15.nd rfl l15__law_rows (i_op vr_add i_int (i_call (pure_ok (hall 14) rfl) hr g15__law_mix T.m14 T.f14.kp (T.b14) (i_cons (i_var 3 rfl v15__law_cell_here dd__law_cell_here dc__law_cell_here) (i_cons i_int (i_cons i_int i_nil star_Constant) star_Constant) star_Name) dd__law_mix star_Name (sa_cons star_Constant (sa_cons star_Constant sa_nil)))))
    (ss_cons (s_asg 5 sc15.nd rfl l15__law_wide (i_op vr_add i_int (i_call (pure_ok (hall 14) rfl) hr g15__law_mix T.m14 T.f14.kp (T.b14) (i_cons (i_var 3 rfl v15__law_cell_here dd__law_cell_here dc__law_cell_here) (i_cons i_int (i_cons i_int i_nil star_Constant) star_Constant) star_Name) dd__law_mix star_Name (sa_cons star_Constant (sa_cons star_Constant sa_nil)))))
    (ss_cons (s_asg 6 sc15.nd rfl l15__law_down (i_call (pure_ok (hall 14) rfl) hr g15__law_mix T.m14 T.f14.kp (T.b14) (i_cons (i_call (pure_ok (hall 13) rfl) hr g15__law_cell T.m13 T.f13.kp (T.b13) (i_cons (i_var 0 rfl v15__law_script dd__law_script dc__law_script) (i_cons (i_op vr_add (i_var 1 rfl v15__law_at dd__law_at dc__law_at) i_int) i_nil star_BinOp) star_Name) dd__law_cell star_Name (sa_cons star_BinOp sa_nil)) (i_cons i_int (i_cons (i_op vr_sub i_int (i_var 4 rfl v15__law_rows dd__law_rows dc__law_rows)) i_nil star_BinOp) star_Constant) star_Call) dd__law_mix star_Call (sa_cons star_Constant (sa_cons star_BinOp sa_nil))))
    (ss_cons (s_asg 7 sc15.nd rfl l15__law_right (i_call (pure_ok (hall 14) rfl) hr g15__law_mix T.m14 T.f14.kp (T.b14) (i_cons (i_call (pure_ok (hall 13) rfl) hr g15__law_cell T.m13 T.f13.kp (T.b13) (i_cons (i_var 0 rfl v15__law_script dd__law_script dc__law_script) (i_cons (i_op vr_add (i_var 1 rfl v15__law_at dd__law_at dc__law_at) i_int) i_nil star_BinOp) star_Name) dd__law_cell star_Name (sa_cons star_BinOp sa_nil)) (i_cons i_int (i_cons (i_op vr_sub i_int (i_var 5 rfl v15__law_wide dd__law_wide dc__law_wide)) i_nil star_BinOp) star_Constant) star_Call) dd__law_mix star_Call (sa_cons star_Constant (sa_cons star_BinOp sa_nil))))
    (ss_cons (s_asg 8 sc15.nd rfl l15__law_way (i_call (pure_ok (hall 14) rfl) hr g15__law_mix T.m14 T.f14.kp (T.b14) (i_cons (i_op vr_add (i_var 3 rfl v15__law_cell_here dd__law_cell_here dc__law_cell_here) i_int) (i_cons i_int (i_cons i_int i_nil star_Constant) star_Constant) star_BinOp) dd__law_mix star_BinOp (sa_cons star_Constant (sa_cons star_Constant sa_nil))))
    (ss_cons (s_asg 9 sc15.nd rfl l15__law_found (i_lst i_nil))
    (ss_cons (s_for 10 PassesOwn.never rfl sc15.nd rfl l15__law_r (src_rng1 g15_range T.z_range (i_cons (i_var 4 rfl v15__law_rows dd__law_rows dc__law_rows) i_nil star_Name) star_Name) (ss_cons (s_for 11 PassesOwn.never rfl sc15.nd rfl l15__law_c (src_rng1 g15_range T.z_range (i_cons (i_var 5 rfl v15__law_wide dd__law_wide dc__law_wide) i_nil star_Name) star_Name) (ss_cons (s_asg 12 sc15.nd rfl l15__law_seed (i_op vr_add (i_op vr_add (i_call (pure_ok (hall 13) rfl) hr g15__law_cell T.m13 T.f13.kp (T.b13) (i_cons (i_var 0 rfl v15__law_script dd__law_script dc__law_script) (i_cons (i_op vr_add (i_op vr_add (i_var 1 rfl v15__law_at dd__law_at dc__law_at) i_int) (i_op vr_mod (i_op vr_add (i_var 10 rfl v15__law_r dd__law_r dc__law_r) (i_op vr_mul i_int (i_var 11 rfl v15__law_c dd__law_c dc__law_c))) i_int)) i_nil star_BinOp) star_Name) dd__law_cell star_Name (sa_cons star_BinOp sa_nil)) (i_op vr_mul (i_op vr_mul i_int (i_var 10 rfl v15__law_r dd__law_r dc__law_r)) (i_var 10 rfl v15__law_r dd__law_r dc__law_r))) (i_op vr_mul (i_op vr_mul i_int (i_var 11 rfl v15__law_c dd__law_c dc__law_c)) (i_var 11 rfl v15__law_c dd__law_c dc__law_c))))
    (ss_cons (s_if (IW.t (t_or (t_cmp rfl (vr_eq hr.units) (i_var 8 rfl v15__law_way dd__law_way dc__law_way) i_int (nomark _)) (t_or1 (t_cmp rfl vr_gt (i_call (pure_ok (hall 14) rfl) hr g15__law_mix T.m14 T.f14.kp (T.b14) (i_cons (i_var 12 rfl v15__law_seed dd__law_seed dc__law_seed) (i_cons i_int (i_cons (i_ix hr.units (i_lst (i_cons i_int (i_cons i_int (i_cons i_int i_nil star_Constant) star_Constant) star_Constant)) (i_op vr_sub (i_var 8 rfl v15__law_way dd__law_way dc__law_way) i_int) (fun _ _ => rfl)) i_nil star_Subscript) star_Constant) star_Name) dd__law_mix star_Name (sa_cons star_Constant (sa_cons star_Subscript sa_nil))) i_int (nomark _))))) (ss_cons (s_app 9 rfl v15__law_found (i_tup (i_cons (i_op vr_add (i_var 6 rfl v15__law_down dd__law_down dc__law_down) (i_var 10 rfl v15__law_r dd__law_r dc__law_r)) (i_cons (i_op vr_add (i_var 7 rfl v15__law_right dd__law_right dc__law_right) (i_var 11 rfl v15__law_c dd__law_c dc__law_c)) i_nil star_BinOp) star_BinOp)) star_Tuple dd__law_found dc__law_found)
    ss_nil) ss_nil)
    ss_nil)))
    ss_nil))
    (ss_cons (s_if (t_not (t_val (i_var 9 rfl v15__law_found dd__law_found dc__law_found) (ev_var _) it_Name)) (ss_cons (s_asg 9 sc15.nd rfl l15__law_found (i_lst (i_cons (i_tup (i_cons (i_var 6 rfl v15__law_down dd__law_down dc__law_down) (i_cons (i_var 7 rfl v15__law_right dd__law_right dc__law_right) i_nil star_Name) star_Name)) i_nil star_Tuple)))
    ss_nil) ss_nil)
    (ss_cons (s_ret (i_callTy vr_toTup g15_tuple T.z_tuple PyProof.Rows.boot_tuple (i_cons (i_cutTo (i_var 9 rfl v15__law_found dd__law_found dc__law_found) (i_var 2 rfl v15__law_most dd__law_most dc__law_most)) i_nil star_Subscript) dn_tuple dd_tuple star_Subscript sa_nil))
    ss_nil))))))))))
theorem body16 (T : Txt K mg F FD TK) (hall : ∀ i, FnOk Pg w K mg base CX0 n (F i) (FD i) (psOf i) (spA K (callA U fuel n) i (ioOf i))) (cdv : Value) (A : Around) (outer : List PySem.Env) (s : Shared) (H : Hp) (E : XK)
    (hr : Room n (A.deeper (envOfC "_law_leap" (defScope (top 27)) s.heap.objs.size (F 16) cdv))) :
    ISs (cxOf CX0 Pg w K mg base ["_law_cell_here", "_law_some"] "_law_leap" (defScope (top 27)) (F 16) cdv A outer s H E).nox (exSs (callA U fuel n) fuel ir16) (defBody (top 27)) :=
  (ss_cons (s_asg 1 sc16.nd rfl l16__law_some (i_lst (i_cons (i_tup (i_cons i_int (i_cons i_int i_nil star_Constant) star_Constant)) (i_cons (i_tup (i_cons i_int (i_cons i_int i_nil star_Constant) star_Constant)) (i_cons (i_tup (i_cons i_int (i_cons i_int i_nil star_Constant) star_Constant)) (i_cons (i_tup (i_cons i_int (i_cons i_int i_nil star_Constant) star_Constant)) (i_cons (i_tup (i_cons i_int (i_cons i_int i_nil star_Constant) star_Constant)) (i_cons (i_tup (i_cons i_int (i_cons i_int i_nil star_Constant) star_Constant)) (i_cons (i_tup (i_cons i_int (i_cons i_int i_nil star_Constant) star_Constant)) (i_cons (i_tup (i_cons i_int (i_cons i_int i_nil star_Constant) star_Constant)) (i_cons (i_tup (i_cons i_int (i_cons i_int i_nil star_Constant) star_Constant)) (i_cons (i_tup (i_cons i_int (i_cons i_int i_nil star_Constant) star_Constant)) (i_cons (i_tup (i_cons i_int (i_cons i_int i_nil star_Constant) star_Constant)) (i_cons (i_tup (i_cons i_int (i_cons i_int i_nil star_Constant) star_Constant)) (i_cons (i_tup (i_cons i_int (i_cons i_int i_nil star_Constant) star_Constant)) i_nil star_Tuple) star_Tuple) star_Tuple) star_Tuple) star_Tuple) star_Tuple) star_Tuple) star_Tuple) star_Tuple) star_Tuple) star_Tuple) star_Tuple) star_Tuple)))
    (ss_cons (s_ret (i_ix hr.units (i_op vr_add (i_var 1 rfl v16__law_some dd__law_some dc__law_some) (i_lst (i_cons (i_tup (i_cons i_int (i_cons i_int i_nil star_Constant) star_Constant)) (i_cons (i_tup (i_cons i_int (i_cons i_int i_nil star_Constant) star_Constant)) (i_cons (i_tup (i_cons i_int (i_cons i_int i_nil star_Constant) star_Constant)) (i_cons (i_tup (i_cons i_int (i_cons i_int i_nil star_Constant) star_Constant)) (i_cons (i_tup (i_cons i_int (i_cons i_int i_nil star_Constant) star_Constant)) (i_cons (i_tup (i_cons i_int (i_cons i_int i_nil star_Constant) star_Constant)) i_nil star_Tuple) star_Tuple) star_Tuple) star_Tuple) star_Tuple) star_Tuple))) (i_op vr_mod (i_var 0 rfl v16__law_cell_here dd__law_cell_here dc__law_cell_here) i_int) (fun _ _ => rfl)))
    ss_nil))
theorem body17 (T : Txt K mg F FD TK) (hall : ∀ i, FnOk Pg w K mg base CX0 n (F i) (FD i) (psOf i) (spA K (callA U fuel n) i (ioOf i))) (cdv : Value) (A : Around) (outer : List PySem.Env) (s : Shared) (H : Hp) (E : XK)
    (hr : Room n (A.deeper (envOfC "_law_is_near" (defScope (top 28)) s.heap.objs.size (F 17) cdv))) :
    ISs (cxOf CX0 Pg w K mg base ["_law_leap_here", "_law_one", "_law_other"] "_law_is_near" (defScope (top 28)) (F 17) cdv A outer s H E).nox (exSs (callA U fuel n) fuel ir17) (defBody (top 28)) :=
  (ss_cons (s_ret (i_cmp (vr_eq hr.units) (i_callB vr_sorted g17_sorted T.z_sorted PyProof.Rows.boot_sorted (i_cons (i_lst (i_cons (i_callB vr_abs g17_abs T.z_abs (by decide +kernel) (i_cons (i_op vr_sub (i_ix hr.units (i_var 1 rfl v17__law_one dd__law_one dc__law_one) i_int (fun _ _ => rfl)) (i_ix hr.units (i_var 2 rfl v17__law_other dd__law_other dc__law_other) i_int (fun _ _ => rfl))) i_nil star_BinOp) dn_abs dd_abs star_BinOp sa_nil) (i_cons (i_callB vr_abs g17_abs T.z_abs (by decide +kernel) (i_cons (i_op vr_sub (i_ix hr.units (i_var 1 rfl v17__law_one dd__law_one dc__law_one) i_int (fun _ _ => rfl)) (i_ix hr.units (i_var 2 rfl v17__law_other dd__law_other dc__law_other) i_int (fun _ _ => rfl))) i_nil star_BinOp) dn_abs dd_abs star_BinOp sa_nil) i_nil star_Call) star_Call)) i_nil star_List) dn_sorted dd_sorted star_List sa_nil) (i_callTy vr_toList g17_list T.z_list PyProof.Rows.boot_list (i_cons (i_var 0 rfl v17__law_leap_here dd__law_leap_here dc__law_leap_here) i_nil star_Name) dn_list dd_list star_Name sa_nil) (nomark _)))
    ss_nil)
theorem body18 (T : Txt K mg F FD TK) (hall : ∀ i, FnOk Pg w K mg base CX0 n (F i) (FD i) (psOf i) (spA K (callA U fuel n) i (ioOf i))) (cdv : Value) (A : Around) (outer : List PySem.Env) (s : Shared) (H : Hp) (E : XK)
    (hr : Room n (A.deeper (envOfC "_law_near" (defScope (top 29)) s.heap.objs.size (F 18) cdv))) :
    ISs (cxOf CX0 Pg w K mg base ["_law_floor_here", "_law_leap_here", "_law_cell_here"] "_law_near" (defScope (top 29)) (F 18) cdv A outer s H E).nox (exSs (callA U fuel n) fuel ir18) (defBody (top 29)) :=
  (ss_cons (s_ret (i_comp rfl (compSc (sc := defScope (top 29)) (N := ["_law_floor_here", "_law_leap_here", "_law_cell_here"]) rfl rfl (by decide +kernel)) (src_seq (i_var 0 rfl v18__law_floor_here dd__law_floor_here dc__law_floor_here)) (.inr ⟨_, rfl, fun _ _ _ _ => (t_val (i_call (pure_ok (hall 17) rfl) hr (gl_comp (by decide +kernel)) T.m17 T.f17.kp (T.b17) (i_cons (i_var 2 rfl (vis_free (by decide +kernel)) dd__law_leap_here dc__law_leap_here) (i_cons (i_var 3 rfl (vis_free (by decide +kernel)) dd__law_cell_here dc__law_cell_here) (i_cons (i_var 0 rfl (vis_loc (by decide +kernel)) dd__law_other dc__law_other) i_nil star_Name) star_Name) star_Name) dd__law_is_near star_Name (sa_cons star_Name (sa_cons star_Name sa_nil))) (ev_call _ _) it_Call)⟩) (fun _ _ _ _ => (i_var 0 rfl (vis_loc (by decide +kernel)) dd__law_other dc__law_other))))
    ss_nil)
theorem body20 (T : Txt K mg F FD TK) (hall : ∀ i, FnOk Pg w K mg base CX0 n (F i) (FD i) (psOf i) (spA K (callA U fuel n) i (ioOf i))) (cdv : Value) (A : Around) (outer : List PySem.Env) (s : Shared) (H : Hp) (E : XK)
    (hr : Room n (A.deeper (envOfC "leads_to" (defScope (top 20)) s.heap.objs.size (F 20) cdv))) :
    ISs (cxOf CX0 Pg w K mg base ["floor", "leap", "goal", "leads", "edge", "further", "cell", "other"] "leads_to" (defScope (top 20)) (F 20) cdv A outer s H E).nox (exSs (callA U fuel n) fuel ir20) (defBody (top 20)) :=
  (ss_cons (s_asg 3 sc20.nd rfl l20_leads (i_done hr.units (i_var 2 rfl v20_goal dd_goal dc_goal) i_non))
    (ss_cons (s_asg 4 sc20.nd rfl l20_edge (i_lst (i_cons (i_var 2 rfl v20_goal dd_goal dc_goal) i_nil star_Name)))
    (ss_cons (s_while PassesOwn.never (t_cmp rfl vr_gt (i_callB vr_len g20_len T.z_len PySem.boot_len (i_cons (i_var 4 rfl v20_edge dd_edge dc_edge) i_nil star_Name) dn_len dd_len star_Name sa_nil) i_int (nomark _)) (ss_cons (s_asg 5 sc20.nd rfl l20_further (i_lst i_nil))
    (ss_cons (s_forV 6 4 PassesOwn.never rfl sc20.nd rfl l20_cell rfl v20_edge (ss_cons (s_for 7 PassesOwn.never rfl sc20.nd rfl l20_other (src_seq (i_call (pure_ok (hall 11) rfl) hr g20_cells_near T.m11 T.f11.kp (T.b11) (i_cons (i_var 0 rfl v20_floor dd_floor dc_floor) (i_cons (i_var 1 rfl v20_leap dd_leap dc_leap) (i_cons (i_var 6 rfl v20_cell dd_cell dc_cell) i_nil star_Name) star_Name) star_Name) dd_cells_near star_Name (sa_cons star_Name (sa_cons star_Name sa_nil)))) (ss_cons (s_if (t_cmp rfl (vr_nin hr.units) (i_var 7 rfl v20_other dd_other dc_other) (i_var 3 rfl v20_leads dd_leads dc_leads) (by with_unfolding_all rfl)) (ss_cons (s_dset 3 hr.units rfl v20_leads (i_var 7 rfl v20_other dd_other dc_other) (i_var 6 rfl v20_cell dd_cell dc_cell) dd_leads dc_leads)
    (ss_cons (s_app 5 rfl v20_further (i_var 7 rfl v20_other dd_other dc_other) star_Name dd_further dc_further)
    ss_nil)) ss_nil)
    ss_nil))
    ss_nil) (hd := dd_edge) (hcd := dc_edge))
    (ss_cons (s_mov 4 5 sc20.nd rfl l20_edge rfl v20_further (hd := dd_further) (hcd := dc_further))
    ss_nil))))
    (ss_cons (s_retV 3 rfl v20_leads dd_leads dc_leads)
    ss_nil))))
theorem body30 (T : Txt K mg F FD TK) (hall : ∀ i, FnOk Pg w K mg base CX0 n (F i) (FD i) (psOf i) (spA K (callA U fuel n) i (ioOf i))) (cdv : Value) (A : Around) (outer : List PySem.Env) (s : Shared) (H : Hp) (E : XK)
    (hr : Room n (A.deeper (envOfC "parts_within" (defScope (top 21)) s.heap.objs.size (F 30) cdv))) :
    ISs (cxOf CX0 Pg w K mg base ["cells", "leap", "parts", "placed", "cell", "leads"] "parts_within" (defScope (top 21)) (F 30) cdv A outer s H E).nox (exSs (callA U fuel n) fuel ir30) (defBody (top 21)) :=
  (ss_cons (s_asg 2 sc30.nd rfl l30_parts (i_lst i_nil))
    (ss_cons (s_asg 3 sc30.nd rfl l30_placed (i_dnew true))
    (ss_cons (s_forV 4 0 PassesOwn.never rfl sc30.nd rfl l30_cell rfl v30_cells (ss_cons (s_if (t_cmp rfl (vr_nin hr.units) (i_var 4 rfl v30_cell dd_cell dc_cell) (i_var 3 rfl v30_placed dd_placed dc_placed) (by with_unfolding_all rfl)) (ss_cons (s_asg 5 sc30.nd rfl l30_leads (i_call (pure_ok (hall 20) rfl) hr g30_leads_to T.m20 T.f20.kp (T.b20) (i_cons (i_var 0 rfl v30_cells dd_cells dc_cells) (i_cons (i_var 1 rfl v30_leap dd_leap dc_leap) (i_cons (i_var 4 rfl v30_cell dd_cell dc_cell) i_nil star_Name) star_Name) star_Name) dd_leads_to star_Name (sa_cons star_Name (sa_cons star_Name sa_nil))))
    (ss_cons (s_dupd 3 5 hr.units rfl v30_placed rfl v30_leads star_Name dd_placed dc_placed dd_leads dc_leads)
    (ss_cons (s_app 2 rfl v30_parts (i_skeys rfl g30_sorted T.z_sorted (i_var 5 rfl v30_leads dd_leads dc_leads) (hst := star_Call)) star_Call dd_parts dc_parts)
    ss_nil))) ss_nil)
    ss_nil) (hd := dd_cells) (hcd := dc_cells))
    (ss_cons (s_retV 2 rfl v30_parts dd_parts dc_parts)
    ss_nil))))
theorem body31 (T : Txt K mg F FD TK) (hall : ∀ i, FnOk Pg w K mg base CX0 n (F i) (FD i) (psOf i) (spA K (callA U fuel n) i (ioOf i))) (cdv : Value) (A : Around) (outer : List PySem.Env) (s : Shared) (H : Hp) (E : XK)
    (hr : Room n (A.deeper (envOfC "parts_of" (defScope (top 22)) s.heap.objs.size (F 31) cdv))) :
    ISs (cxOf CX0 Pg w K mg base ["floor", "leap"] "parts_of" (defScope (top 22)) (F 31) cdv A outer s H E).nox (exSs (callA U fuel n) fuel ir31) (defBody (top 22)) :=
  (ss_cons (s_expr (i_call (pure_ok (hall 6) rfl) hr g31_checked T.m6 T.f6.kp (T.b6) (i_cons (i_var 0 rfl v31_floor dd_floor dc_floor) i_nil star_Name) dd_checked star_Name sa_nil))
    (ss_cons (s_expr (i_call (pure_ok (hall 7) rfl) hr g31_checked_leap T.m7 T.f7.kp (T.b7) (i_cons (i_var 1 rfl v31_leap dd_leap dc_leap) i_nil star_Name) dd_checked_leap star_Name sa_nil))
    (ss_cons (s_ret (i_call (pure_ok (hall 30) rfl) hr g31_parts_within T.m30 T.f30.kp (T.b30) (i_cons (i_var 0 rfl v31_floor dd_floor dc_floor) (i_cons (i_var 1 rfl v31_leap dd_leap dc_leap) i_nil star_Name) star_Name) dd_parts_within star_Name (sa_cons star_Name sa_nil)))
    ss_nil)))
theorem body32 (T : Txt K mg F FD TK) (hall : ∀ i, FnOk Pg w K mg base CX0 n (F i) (FD i) (psOf i) (spA K (callA U fuel n) i (ioOf i))) (cdv : Value) (A : Around) (outer : List PySem.Env) (s : Shared) (H : Hp) (E : XK)
    (hr : Room n (A.deeper (envOfC "_law_parts" (defScope (top 30)) s.heap.objs.size (F 32) cdv))) :
    ISs (cxOf CX0 Pg w K mg base ["_law_floor_here", "_law_leap_here", "_law_found", "_law_left", "_law_part", "_law_at"] "_law_parts" (defScope (top 30)) (F 32) cdv A outer s H E).nox (exSs (callA U fuel n) fuel ir32) (defBody (top 30)) :=
  (ss_cons (s_asg 2 sc32.nd rfl l32__law_found (i_lst i_nil))
    (ss_cons (s_asg 3 sc32.nd rfl l32__law_left (i_callTy vr_toList g32_list T.z_list PyProof.Rows.boot_list (i_cons (i_var 0 rfl v32__law_floor_here dd__law_floor_here dc__law_floor_here) i_nil star_Name) dn_list dd_list star_Name sa_nil))
    (ss_cons (s_while PassesOwn.never (t_val (i_var 3 rfl v32__law_left dd__law_left dc__law_left) (ev_var _) it_Name) (ss_cons (s_asg 4 sc32.nd rfl l32__law_part (i_lst (i_cons (i_ix hr.units (i_var 3 rfl v32__law_left dd__law_left dc__law_left) i_int (fun _ _ => rfl)) i_nil star_Subscript)))
    (ss_cons (s_asg 5 sc32.nd rfl l32__law_at i_int)
    (ss_cons (s_while PassesOwn.never (t_cmp rfl (vr_lt hr.units) (i_var 5 rfl v32__law_at dd__law_at dc__law_at) (i_callB vr_len g32_len T.z_len PySem.boot_len (i_cons (i_var 4 rfl v32__law_part dd__law_part dc__law_part) i_nil star_Name) dn_len dd_len star_Name sa_nil) (nomark _)) (ss_cons (s_asg 4 sc32.nd rfl l32__law_part (i_op vr_add (i_var 4 rfl v32__law_part dd__law_part dc__law_part) (i_comp rfl (compSc (sc := defScope (top 30)) (N := ["_law_floor_here", "_law_leap_here", "_law_found", "_law_left", "_law_part", "_law_at"]) rfl rfl (by decide +kernel)) (src_seq (i_call (pure_ok (hall 18) rfl) hr g32__law_near T.m18 T.f18.kp (T.b18) (i_cons (i_var 0 rfl v32__law_floor_here dd__law_floor_here dc__law_floor_here) (i_cons (i_var 1 rfl v32__law_leap_here dd__law_leap_here dc__law_leap_here) (i_cons (i_ix hr.units (i_var 4 rfl v32__law_part dd__law_part dc__law_part) (i_var 5 rfl v32__law_at dd__law_at dc__law_at) (fun _ _ => rfl)) i_nil star_Subscript) star_Name) star_Name) dd__law_near star_Name (sa_cons star_Name (sa_cons star_Subscript sa_nil)))) (.inr ⟨_, rfl, fun _ _ _ _ => (t_cmp rfl (vr_nin hr.units) (i_var 0 rfl (vis_loc (by decide +kernel)) dd__law_other dc__law_other) (i_var 5 rfl (vis_free (by decide +kernel)) dd__law_part dc__law_part) (by with_unfolding_all rfl))⟩) (fun _ _ _ _ => (i_var 0 rfl (vis_loc (by decide +kernel)) dd__law_other dc__law_other)))))
    (ss_cons (s_asg 5 sc32.nd rfl l32__law_at (i_op vr_add (i_var 5 rfl v32__law_at dd__law_at dc__law_at) i_int))
    ss_nil)))
    (ss_cons (s_app 2 rfl v32__law_found (i_callB vr_sorted g32_sorted T.z_sorted PyProof.Rows.boot_sorted (i_cons (i_var 4 rfl v32__law_part dd__law_part dc__law_part) i_nil star_Name) dn_sorted dd_sorted star_Name sa_nil) star_Call dd__law_found dc__law_found)
    (ss_cons (s_asgC 3 rfl sc32.nd rfl ll32__law_left (compSc (sc := defScope (top 30)) (N := ["_law_floor_here", "_law_leap_here", "_law_found", "_law_left", "_law_part", "_law_at"]) rfl rfl (by decide +kernel)) (src_seq (i_var 3 rfl v32__law_left dd__law_left dc__law_left)) (.inr ⟨_, rfl, fun _ _ _ _ => (t_cmp rfl (vr_nin hr.units) (i_var 0 rfl (vis_loc (by decide +kernel)) dd__law_cell_here dc__law_cell_here) (i_var 5 rfl (vis_free (by decide +kernel)) dd__law_part dc__law_part) (by with_unfolding_all rfl))⟩) (fun _ _ _ _ => (i_var 0 rfl (vis_loc (by decide +kernel)) dd__law_cell_here dc__law_cell_here)) (hsw := (sw_comp (sc := defScope (top 30)) rfl (by decide +kernel))))
    ss_nil))))))
    (ss_cons (s_retV 2 rfl v32__law_found dd__law_found dc__law_found)
    ss_nil))))
theorem body33 (T : Txt K mg F FD TK) (hall : ∀ i, FnOk Pg w K mg base CX0 n (F i) (FD i) (psOf i) (spA K (callA U fuel n) i (ioOf i))) (cdv : Value) (A : Around) (outer : List PySem.Env) (s : Shared) (H : Hp) (E : XK)
    (hr : Room n (A.deeper (envOfC "law" (defScope (top 31)) s.heap.objs.size (F 33) cdv))) :
    ISs (cxOf CX0 Pg w K mg base ["_law_script", "_law_floor_here", "_law_leap_here", "_law_found"] "law" (defScope (top 31)) (F 33) cdv A outer s H E).nox (exSs (callA U fuel n) fuel ir33) (defBody (top 31)) :=
  (ss_cons (s_asg 1 sc33.nd rfl l33__law_floor_here (i_call (pure_ok (hall 15) rfl) hr g33__law_floor T.m15 T.f15.kp (T.b15) (i_cons (i_var 0 rfl v33__law_script dd__law_script dc__law_script) (i_cons i_int (i_cons i_int i_nil star_Constant) star_Constant) star_Name) dd__law_floor star_Name (sa_cons star_Constant (sa_cons star_Constant sa_nil))))
    (ss_cons (s_asg 2 sc33.nd rfl l33__law_leap_here (i_call (pure_ok (hall 16) rfl) hr g33__law_leap T.m16 T.f16.kp (T.b16) (i_cons (i_call (pure_ok (hall 13) rfl) hr g33__law_cell T.m13 T.f13.kp (T.b13) (i_cons (i_var 0 rfl v33__law_script dd__law_script dc__law_script) (i_cons i_int i_nil star_Constant) star_Name) dd__law_cell star_Name (sa_cons star_Constant sa_nil)) i_nil star_Call) dd__law_leap star_Call sa_nil))
    (ss_cons (s_asg 3 sc33.nd rfl l33__law_found (i_call (pure_ok (hall 31) rfl) hr g33_parts_of T.m31 T.f31.kp (T.b31) (i_cons (i_var 1 rfl v33__law_floor_here dd__law_floor_here dc__law_floor_here) (i_cons (i_var 2 rfl v33__law_leap_here dd__law_leap_here dc__law_leap_here) i_nil star_Name) star_Name) dd_parts_of star_Name (sa_cons star_Name sa_nil)))
    (ss_cons (s_if (IW.t (t_or (t_not (t_val (i_inst (t := .list) g33_isinstance T.z_isinstance g33_list T.z_list PyProof.Rows.boot_list (i_var 3 rfl v33__law_found dd__law_found dc__law_found) dn_list dd_list star_Name star_Name (sa_cons star_Name sa_nil)) (ev_prim _ _) it_Call)) (t_or1 (t_val (i_comp rfl (compSc (sc := defScope (top 31)) (N := ["_law_script", "_law_floor_here", "_law_leap_here", "_law_found"]) rfl rfl (by decide +kernel)) (src_seq (i_var 3 rfl v33__law_found dd__law_found dc__law_found)) (.inr ⟨_, rfl, fun _ _ _ _ => (t_not (t_val (i_inst (t := .list) (gl_comp (by decide +kernel)) T.z_isinstance (gl_comp (by decide +kernel)) T.z_list PyProof.Rows.boot_list (i_var 0 rfl (vis_loc (by decide +kernel)) dd__law_part dc__law_part) dn_list dd_list star_Name star_Name (sa_cons star_Name sa_nil)) (ev_prim _ _) it_Call))⟩) (fun _ _ _ _ => (i_var 0 rfl (vis_loc (by decide +kernel)) dd__law_part dc__law_part))) (ev_comp _ _ _ _) it_ListComp)))) (ss_cons (s_ret i_bl)
    ss_nil) ss_nil)
    (ss_cons (s_ret (i_cmp (vr_eq hr.units) (i_var 3 rfl v33__law_found dd__law_found dc__law_found) (i_call (pure_ok (hall 32) rfl) hr g33__law_parts T.m32 T.f32.kp (T.b32) (i_cons (i_var 1 rfl v33__law_floor_here dd__law_floor_here dc__law_floor_here) (i_cons (i_var 2 rfl v33__law_leap_here dd__law_leap_here dc__law_leap_here) i_nil star_Name) star_Name) dd__law_parts star_Name (sa_cons star_Name sa_nil)) (nomark _)))
    ss_nil)))))
theorem all_ok (T : Txt K mg F FD TK) : ∀ n i, FnOk Pg w K mg base CX0 n (F i) (FD i) (psOf i) (spA K (callA U fuel n) i (ioOf i))
  | 0, _ => fn_zero
  | n + 1, 0 => fn_ok (F0 := ⟨3, 3, ir0, []⟩) T.f0 sc0 rfl rfl rfl rfl (by decide) (body0 T (all_ok T n))
  | n + 1, 1 => fn_ok (F0 := ⟨1, 1, ir1, []⟩) T.f1 sc1 rfl rfl rfl rfl (by decide) (body1 T (all_ok T n))
  | n + 1, 2 => fn_ok (F0 := ⟨1, 1, ir2, []⟩) T.f2 sc2 rfl rfl rfl rfl (by decide) (body2 T (all_ok T n))
  | n + 1, 3 => fn_ok (F0 := ⟨1, 1, ir3, []⟩) T.f3 sc3 rfl rfl rfl rfl (by decide) (body3 T (all_ok T n))
  | n + 1, 4 => fn_ok (F0 := ⟨1, 1, ir4, []⟩) T.f4 sc4 rfl rfl rfl rfl (by decide) (body4 T (all_ok T n))
  | n + 1, 5 => fn_ok (F0 := ⟨1, 1, ir5, []⟩) T.f5 sc5 rfl rfl rfl rfl (by decide) (body5 T (all_ok T n))
  | n + 1, 6 => fn_ok (F0 := ⟨1, 1, ir6, []⟩) T.f6 sc6 rfl rfl rfl rfl (by decide) (body6 T (all_ok T n))
  | n + 1, 7 => fn_ok (F0 := ⟨1, 1, ir7, []⟩) T.f7 sc7 rfl rfl rfl rfl (by decide) (body7 T (all_ok T n))
  | n + 1, 8 => fn_none rfl
  | n + 1, 9 => fn_ok (F0 := ⟨2, 2, ir9, []⟩) T.f9 sc9 rfl rfl rfl rfl (by decide) (body9 T (all_ok T n))
  | n + 1, 10 => fn_ok (F0 := ⟨3, 3, ir10, []⟩) T.f10 sc10 rfl rfl rfl rfl (by decide) (body10 T (all_ok T n))
  | n + 1, 11 => fn_ok (F0 := ⟨3, 3, ir11, []⟩) T.f11 sc11 rfl rfl rfl rfl (by decide) (body11 T (all_ok T n))
  | n + 1, 12 => fn_none rfl
  | n + 1, 13 => fn_ok (F0 := ⟨2, 2, ir13, []⟩) T.f13 sc13 rfl rfl rfl rfl (by decide) (body13 T (all_ok T n))
  | n + 1, 14 => fn_ok (F0 := ⟨3, 3, ir14, []⟩) T.f14 sc14 rfl rfl rfl rfl (by decide) (body14 T (all_ok T n))
  | n + 1, 15 => fn_ok (F0 := ⟨3, 13, ir15, []⟩) T.f15 sc15 rfl rfl rfl rfl (by decide) (body15 T (all_ok T n))
  | n + 1, 16 => fn_ok (F0 := ⟨1, 2, ir16, []⟩) T.f16 sc16 rfl rfl rfl rfl (by decide) (body16 T (all_ok T n))
  | n + 1, 17 => fn_ok (F0 := ⟨3, 3, ir17, []⟩) T.f17 sc17 rfl rfl rfl rfl (by decide) (body17 T (all_ok T n))
  | n + 1, 18 => fn_ok (F0 := ⟨3, 3, ir18, []⟩) T.f18 sc18 rfl rfl rfl rfl (by decide) (body18 T (all_ok T n))
  | n + 1, 19 => fn_none rfl
  | n + 1, 20 => fn_ok (F0 := ⟨3, 8, ir20, []⟩) T.f20 sc20 rfl rfl rfl rfl (by decide) (body20 T (all_ok T n))
  | n + 1, 21 => fn_none rfl
  | n + 1, 22 => fn_none rfl
  | n + 1, 23 => fn_none rfl
  | n + 1, 24 => fn_none rfl
  | n + 1, 25 => fn_none rfl
  | n + 1, 26 => fn_none rfl
  | n + 1, 27 => fn_none rfl
  | n + 1, 28 => fn_none rfl
  | n + 1, 29 => fn_none rfl
  | n + 1, 30 => fn_ok (F0 := ⟨2, 6, ir30, []⟩) T.f30 sc30 rfl rfl rfl rfl (by decide) (body30 T (all_ok T n))
  | n + 1, 31 => fn_ok (F0 := ⟨2, 2, ir31, []⟩) T.f31 sc31 rfl rfl rfl rfl (by decide) (body31 T (all_ok T n))
  | n + 1, 32 => fn_ok (F0 := ⟨2, 6, ir32, []⟩) T.f32 sc32 rfl rfl rfl rfl (by decide) (body32 T (all_ok T n))
  | n + 1, 33 => fn_ok (F0 := ⟨1, 4, ir33, []⟩) T.f33 sc33 rfl rfl rfl rfl (by decide) (body33 T (all_ok T n))
  | n + 1, _ + 34 => fn_none rfl
theorem txt_mk {h : Heap} (X : K.In h) (G : h.Ns mainGlobals mg) {f0 f1 f2 f3 f4 f5 f6 f7 f9 f10 f11 f13 f14 f15 f16 f17 f18 f20 f30 f31 f32 f33 : Addr} {od0 od1 od2 od3 od4 od5 od6 od7 od9 od10 od11 od13 od14 od15 od16 od17 od18 od20 od30 od31 od32 od33 an0 an1 an2 an3 an4 an5 an6 an7 an9 an10 an11 an13 an14 an15 an16 an17 an18 an20 an30 an31 an32 an33 : Option Addr} {sl0 sl1 sl2 sl3 sl4 sl5 sl6 sl7 sl9 sl10 sl11 sl13 sl14 sl15 sl16 sl17 sl18 sl20 sl30 sl31 sl32 sl33 : Array (Option Value)} {oc0 oc1 oc2 oc3 oc4 oc5 oc6 oc7 oc9 oc10 oc11 oc13 oc14 oc15 oc16 oc17 oc18 oc20 oc30 oc31 oc32 oc33 kV0 kV1 kV2 kV3 kV4 kV5 kV6 kV7 kV9 kV10 kV11 kV13 kV14 kV15 kV16 kV17 kV18 kV20 kV30 kV31 kV32 kV33 dc0 dc1 dc2 dc3 dc4 dc5 dc6 dc7 dc9 dc10 dc11 dc13 dc14 dc15 dc16 dc17 dc18 dc20 dc30 dc31 dc32 dc33 pm0 pm1 pm2 pm3 pm4 pm5 pm6 pm7 pm9 pm10 pm11 pm13 pm14 pm15 pm16 pm17 pm18 pm20 pm30 pm31 pm32 pm33 cd0 cd1 cd2 cd3 cd4 cd5 cd6 cd7 cd9 cd10 cd11 cd13 cd14 cd15 cd16 cd17 cd18 cd20 cd30 cd31 cd32 cd33 ct0 ct1 ct2 ct3 ct4 ct5 ct6 ct7 ct9 ct10 ct11 ct13 ct14 ct15 ct16 ct17 ct18 ct20 ct30 ct31 ct32 ct33 : Value} {t0 t1 t2 : Tok}
    (a0 : PySem.W.nsIn K mainGlobals "is_whole" = some (some (.ref f0))) (l0 : K.lookup f0 = some ⟨oc0, od0, .func (PySem.W.fnOf "is_whole" "is_whole" (defArgs (top 8)) (defBody (top 8)) (defScope (top 8)) .none kV0 dc0 pm0 an0 cd0 ct0), sl0⟩) (e0 : PySem.W.codeIn K cd0 "is_whole" = true) (k0 : PySem.W.keepIn K (.ref f0) = true)
    (a1 : PySem.W.nsIn K mainGlobals "is_couple" = some (some (.ref f1))) (l1 : K.lookup f1 = some ⟨oc1, od1, .func (PySem.W.fnOf "is_couple" "is_couple" (defArgs (top 9)) (defBody (top 9)) (defScope (top 9)) .none kV1 dc1 pm1 an1 cd1 ct1), sl1⟩) (e1 : PySem.W.codeIn K cd1 "is_couple" = true) (k1 : PySem.W.keepIn K (.ref f1) = true)
    (a2 : PySem.W.nsIn K mainGlobals "is_cell" = some (some (.ref f2))) (l2 : K.lookup f2 = some ⟨oc2, od2, .func (PySem.W.fnOf "is_cell" "is_cell" (defArgs (top 10)) (defBody (top 10)) (defScope (top 10)) .none kV2 dc2 pm2 an2 cd2 ct2), sl2⟩) (e2 : PySem.W.codeIn K cd2 "is_cell" = true) (k2 : PySem.W.keepIn K (.ref f2) = true)
    (a3 : PySem.W.nsIn K mainGlobals "is_leap" = some (some (.ref f3))) (l3 : K.lookup f3 = some ⟨oc3, od3, .func (PySem.W.fnOf "is_leap" "is_leap" (defArgs (top 11)) (defBody (top 11)) (defScope (top 11)) .none kV3 dc3 pm3 an3 cd3 ct3), sl3⟩) (e3 : PySem.W.codeIn K cd3 "is_leap" = true) (k3 : PySem.W.keepIn K (.ref f3) = true)
    (a4 : PySem.W.nsIn K mainGlobals "is_rising" = some (some (.ref f4))) (l4 : K.lookup f4 = some ⟨oc4, od4, .func (PySem.W.fnOf "is_rising" "is_rising" (defArgs (top 12)) (defBody (top 12)) (defScope (top 12)) .none kV4 dc4 pm4 an4 cd4 ct4), sl4⟩) (e4 : PySem.W.codeIn K cd4 "is_rising" = true) (k4 : PySem.W.keepIn K (.ref f4) = true)
    (a5 : PySem.W.nsIn K mainGlobals "is_floor" = some (some (.ref f5))) (l5 : K.lookup f5 = some ⟨oc5, od5, .func (PySem.W.fnOf "is_floor" "is_floor" (defArgs (top 13)) (defBody (top 13)) (defScope (top 13)) .none kV5 dc5 pm5 an5 cd5 ct5), sl5⟩) (e5 : PySem.W.codeIn K cd5 "is_floor" = true) (k5 : PySem.W.keepIn K (.ref f5) = true)
    (a6 : PySem.W.nsIn K mainGlobals "checked" = some (some (.ref f6))) (l6 : K.lookup f6 = some ⟨oc6, od6, .func (PySem.W.fnOf "checked" "checked" (defArgs (top 14)) (defBody (top 14)) (defScope (top 14)) .none kV6 dc6 pm6 an6 cd6 ct6), sl6⟩) (e6 : PySem.W.codeIn K cd6 "checked" = true) (k6 : PySem.W.keepIn K (.ref f6) = true)
    (a7 : PySem.W.nsIn K mainGlobals "checked_leap" = some (some (.ref f7))) (l7 : K.lookup f7 = some ⟨oc7, od7, .func (PySem.W.fnOf "checked_leap" "checked_leap" (defArgs (top 15)) (defBody (top 15)) (defScope (top 15)) .none kV7 dc7 pm7 an7 cd7 ct7), sl7⟩) (e7 : PySem.W.codeIn K cd7 "checked_leap" = true) (k7 : PySem.W.keepIn K (.ref f7) = true)
    (a9 : PySem.W.nsIn K mainGlobals "folded" = some (some (.ref f9))) (l9 : K.lookup f9 = some ⟨oc9, od9, .func (PySem.W.fnOf "folded" "folded" (defArgs (top 17)) (defBody (top 17)) (defScope (top 17)) .none kV9 dc9 pm9 an9 cd9 ct9), sl9⟩) (e9 : PySem.W.codeIn K cd9 "folded" = true) (k9 : PySem.W.keepIn K (.ref f9) = true)
    (a10 : PySem.W.nsIn K mainGlobals "are_near" = some (some (.ref f10))) (l10 : K.lookup f10 = some ⟨oc10, od10, .func (PySem.W.fnOf "are_near" "are_near" (defArgs (top 18)) (defBody (top 18)) (defScope (top 18)) .none kV10 dc10 pm10 an10 cd10 ct10), sl10⟩) (e10 : PySem.W.codeIn K cd10 "are_near" = true) (k10 : PySem.W.keepIn K (.ref f10) = true)
    (a11 : PySem.W.nsIn K mainGlobals "cells_near" = some (some (.ref f11))) (l11 : K.lookup f11 = some ⟨oc11, od11, .func (PySem.W.fnOf "cells_near" "cells_near" (defArgs (top 19)) (defBody (top 19)) (defScope (top 19)) .none kV11 dc11 pm11 an11 cd11 ct11), sl11⟩) (e11 : PySem.W.codeIn K cd11 "cells_near" = true) (k11 : PySem.W.keepIn K (.ref f11) = true)
    (a13 : PySem.W.nsIn K mainGlobals "_law_cell" = some (some (.ref f13))) (l13 : K.lookup f13 = some ⟨oc13, od13, .func (PySem.W.fnOf "_law_cell" "_law_cell" (defArgs (top 24)) (defBody (top 24)) (defScope (top 24)) .none kV13 dc13 pm13 an13 cd13 ct13), sl13⟩) (e13 : PySem.W.codeIn K cd13 "_law_cell" = true) (k13 : PySem.W.keepIn K (.ref f13) = true)
    (a14 : PySem.W.nsIn K mainGlobals "_law_mix" = some (some (.ref f14))) (l14 : K.lookup f14 = some ⟨oc14, od14, .func (PySem.W.fnOf "_law_mix" "_law_mix" (defArgs (top 25)) (defBody (top 25)) (defScope (top 25)) .none kV14 dc14 pm14 an14 cd14 ct14), sl14⟩) (e14 : PySem.W.codeIn K cd14 "_law_mix" = true) (k14 : PySem.W.keepIn K (.ref f14) = true)
    (a15 : PySem.W.nsIn K mainGlobals "_law_floor" = some (some (.ref f15))) (l15 : K.lookup f15 = some ⟨oc15, od15, .func (PySem.W.fnOf "_law_floor" "_law_floor" (defArgs (top 26)) (defBody (top 26)) (defScope (top 26)) .none kV15 dc15 pm15 an15 cd15 ct15), sl15⟩) (e15 : PySem.W.codeIn K cd15 "_law_floor" = true) (k15 : PySem.W.keepIn K (.ref f15) = true)
    (a16 : PySem.W.nsIn K mainGlobals "_law_leap" = some (some (.ref f16))) (l16 : K.lookup f16 = some ⟨oc16, od16, .func (PySem.W.fnOf "_law_leap" "_law_leap" (defArgs (top 27)) (defBody (top 27)) (defScope (top 27)) .none kV16 dc16 pm16 an16 cd16 ct16), sl16⟩) (e16 : PySem.W.codeIn K cd16 "_law_leap" = true) (k16 : PySem.W.keepIn K (.ref f16) = true)
    (a17 : PySem.W.nsIn K mainGlobals "_law_is_near" = some (some (.ref f17))) (l17 : K.lookup f17 = some ⟨oc17, od17, .func (PySem.W.fnOf "_law_is_near" "_law_is_near" (defArgs (top 28)) (defBody (top 28)) (defScope (top 28)) .none kV17 dc17 pm17 an17 cd17 ct17), sl17⟩) (e17 : PySem.W.codeIn K cd17 "_law_is_near" = true) (k17 : PySem.W.keepIn K (.ref f17) = true)
    (a18 : PySem.W.nsIn K mainGlobals "_law_near" = some (some (.ref f18))) (l18 : K.lookup f18 = some ⟨oc18, od18, .func (PySem.W.fnOf "_law_near" "_law_near" (defArgs (top 29)) (defBody (top 29)) (defScope (top 29)) .none kV18 dc18 pm18 an18 cd18 ct18), sl18⟩) (e18 : PySem.W.codeIn K cd18 "_law_near" = true) (k18 : PySem.W.keepIn K (.ref f18) = true)
    (a20 : PySem.W.nsIn K mainGlobals "leads_to" = some (some (.ref f20))) (l20 : K.lookup f20 = some ⟨oc20, od20, .func (PySem.W.fnOf "leads_to" "leads_to" (defArgs (top 20)) (defBody (top 20)) (defScope (top 20)) .none kV20 dc20 pm20 an20 cd20 ct20), sl20⟩) (e20 : PySem.W.codeIn K cd20 "leads_to" = true) (k20 : PySem.W.keepIn K (.ref f20) = true)
    (a30 : PySem.W.nsIn K mainGlobals "parts_within" = some (some (.ref f30))) (l30 : K.lookup f30 = some ⟨oc30, od30, .func (PySem.W.fnOf "parts_within" "parts_within" (defArgs (top 21)) (defBody (top 21)) (defScope (top 21)) .none kV30 dc30 pm30 an30 cd30 ct30), sl30⟩) (e30 : PySem.W.codeIn K cd30 "parts_within" = true) (k30 : PySem.W.keepIn K (.ref f30) = true)
    (a31 : PySem.W.nsIn K mainGlobals "parts_of" = some (some (.ref f31))) (l31 : K.lookup f31 = some ⟨oc31, od31, .func (PySem.W.fnOf "parts_of" "parts_of" (defArgs (top 22)) (defBody (top 22)) (defScope (top 22)) .none kV31 dc31 pm31 an31 cd31 ct31), sl31⟩) (e31 : PySem.W.codeIn K cd31 "parts_of" = true) (k31 : PySem.W.keepIn K (.ref f31) = true)
    (a32 : PySem.W.nsIn K mainGlobals "_law_parts" = some (some (.ref f32))) (l32 : K.lookup f32 = some ⟨oc32, od32, .func (PySem.W.fnOf "_law_parts" "_law_parts" (defArgs (top 30)) (defBody (top 30)) (defScope (top 30)) .none kV32 dc32 pm32 an32 cd32 ct32), sl32⟩) (e32 : PySem.W.codeIn K cd32 "_law_parts" = true) (k32 : PySem.W.keepIn K (.ref f32) = true)
    (a33 : PySem.W.nsIn K mainGlobals "law" = some (some (.ref f33))) (l33 : K.lookup f33 = some ⟨oc33, od33, .func (PySem.W.fnOf "law" "law" (defArgs (top 31)) (defBody (top 31)) (defScope (top 31)) .none kV33 dc33 pm33 an33 cd33 ct33), sl33⟩) (e33 : PySem.W.codeIn K cd33 "law" = true) (k33 : PySem.W.keepIn K (.ref f33) = true)
    (z_isinstance : PySem.W.nsIn K mainGlobals "isinstance" = some none)
    (z_int : PySem.W.nsIn K mainGlobals "int" = some none)
    (z_bool : PySem.W.nsIn K mainGlobals "bool" = some none)
    (z_len : PySem.W.nsIn K mainGlobals "len" = some none)
    (z_tuple : PySem.W.nsIn K mainGlobals "tuple" = some none)
    (z_range : PySem.W.nsIn K mainGlobals "range" = some none)
    (z_all : PySem.W.nsIn K mainGlobals "all" = some none)
    (z_abs : PySem.W.nsIn K mainGlobals "abs" = some none)
    (z_max : PySem.W.nsIn K mainGlobals "max" = some none)
    (z_min : PySem.W.nsIn K mainGlobals "min" = some none)
    (z_sorted : PySem.W.nsIn K mainGlobals "sorted" = some none)
    (z_list : PySem.W.nsIn K mainGlobals "list" = some none)
    (c0 : PySem.W.nsIn K mainGlobals "LAST_LINE" = some (some (.int 7 t0)))
    (c1 : PySem.W.nsIn K mainGlobals "MOST_CELLS" = some (some (.int 24 t1)))
    (c2 : PySem.W.nsIn K mainGlobals "LONGEST_LEAP" = some (some (.int 4 t2)))
    : ∃ F FD TK, Txt K mg F FD TK ∧ F 33 = f33 ∧ (∀ (s : Shared) (u : Value), BindsTo s (FD 33) ⟨[u], []⟩ [("_law_script", u)]) :=
  ⟨fun i => match i with
     | 0 => f0
     | 1 => f1
     | 2 => f2
     | 3 => f3
     | 4 => f4
     | 5 => f5
     | 6 => f6
     | 7 => f7
     | 9 => f9
     | 10 => f10
     | 11 => f11
     | 13 => f13
     | 14 => f14
     | 15 => f15
     | 16 => f16
     | 17 => f17
     | 18 => f18
     | 20 => f20
     | 30 => f30
     | 31 => f31
     | 32 => f32
     | _ => f33,
   fun i => match i with
     | 0 => PySem.W.fnOf "is_whole" "is_whole" (defArgs (top 8)) (defBody (top 8)) (defScope (top 8)) .none kV0 dc0 pm0 an0 cd0 ct0
     | 1 => PySem.W.fnOf "is_couple" "is_couple" (defArgs (top 9)) (defBody (top 9)) (defScope (top 9)) .none kV1 dc1 pm1 an1 cd1 ct1
     | 2 => PySem.W.fnOf "is_cell" "is_cell" (defArgs (top 10)) (defBody (top 10)) (defScope (top 10)) .none kV2 dc2 pm2 an2 cd2 ct2
     | 3 => PySem.W.fnOf "is_leap" "is_leap" (defArgs (top 11)) (defBody (top 11)) (defScope (top 11)) .none kV3 dc3 pm3 an3 cd3 ct3
     | 4 => PySem.W.fnOf "is_rising" "is_rising" (defArgs (top 12)) (defBody (top 12)) (defScope (top 12)) .none kV4 dc4 pm4 an4 cd4 ct4
     | 5 => PySem.W.fnOf "is_floor" "is_floor" (defArgs (top 13)) (defBody (top 13)) (defScope (top 13)) .none kV5 dc5 pm5 an5 cd5 ct5
     | 6 => PySem.W.fnOf "checked" "checked" (defArgs (top 14)) (defBody (top 14)) (defScope (top 14)) .none kV6 dc6 pm6 an6 cd6 ct6
     | 7 => PySem.W.fnOf "checked_leap" "checked_leap" (defArgs (top 15)) (defBody (top 15)) (defScope (top 15)) .none kV7 dc7 pm7 an7 cd7 ct7
     | 9 => PySem.W.fnOf "folded" "folded" (defArgs (top 17)) (defBody (top 17)) (defScope (top 17)) .none kV9 dc9 pm9 an9 cd9 ct9
     | 10 => PySem.W.fnOf "are_near" "are_near" (defArgs (top 18)) (defBody (top 18)) (defScope (top 18)) .none kV10 dc10 pm10 an10 cd10 ct10
     | 11 => PySem.W.fnOf "cells_near" "cells_near" (defArgs (top 19)) (defBody (top 19)) (defScope (top 19)) .none kV11 dc11 pm11 an11 cd11 ct11
     | 13 => PySem.W.fnOf "_law_cell" "_law_cell" (defArgs (top 24)) (defBody (top 24)) (defScope (top 24)) .none kV13 dc13 pm13 an13 cd13 ct13
     | 14 => PySem.W.fnOf "_law_mix" "_law_mix" (defArgs (top 25)) (defBody (top 25)) (defScope (top 25)) .none kV14 dc14 pm14 an14 cd14 ct14
     | 15 => PySem.W.fnOf "_law_floor" "_law_floor" (defArgs (top 26)) (defBody (top 26)) (defScope (top 26)) .none kV15 dc15 pm15 an15 cd15 ct15
     | 16 => PySem.W.fnOf "_law_leap" "_law_leap" (defArgs (top 27)) (defBody (top 27)) (defScope (top 27)) .none kV16 dc16 pm16 an16 cd16 ct16
     | 17 => PySem.W.fnOf "_law_is_near" "_law_is_near" (defArgs (top 28)) (defBody (top 28)) (defScope (top 28)) .none kV17 dc17 pm17 an17 cd17 ct17
     | 18 => PySem.W.fnOf "_law_near" "_law_near" (defArgs (top 29)) (defBody (top 29)) (defScope (top 29)) .none kV18 dc18 pm18 an18 cd18 ct18
     | 20 => PySem.W.fnOf "leads_to" "leads_to" (defArgs (top 20)) (defBody (top 20)) (defScope (top 20)) .none kV20 dc20 pm20 an20 cd20 ct20
     | 30 => PySem.W.fnOf "parts_within" "parts_within" (defArgs (top 21)) (defBody (top 21)) (defScope (top 21)) .none kV30 dc30 pm30 an30 cd30 ct30
     | 31 => PySem.W.fnOf "parts_of" "parts_of" (defArgs (top 22)) (defBody (top 22)) (defScope (top 22)) .none kV31 dc31 pm31 an31 cd31 ct31
     | 32 => PySem.W.fnOf "_law_parts" "_law_parts" (defArgs (top 30)) (defBody (top 30)) (defScope (top 30)) .none kV32 dc32 pm32 an32 cd32 ct32
     | _ => PySem.W.fnOf "law" "law" (defArgs (top 31)) (defBody (top 31)) (defScope (top 31)) .none kV33 dc33 pm33 an33 cd33 ct33,
   fun i => [t0, t1, t2].getD i 0,
   {
     m0 := PySem.W.mg_of X G a0
     f0 := fun_mk (st := top 8) l0 e0 k0
     b0 := (fun_mk (st := top 8) l0 e0 k0).binds (ps := psOf 0) fun _ _ _ _ _ _ us hl => match us, hl with | [_, _, _], _ => rfl
     m1 := PySem.W.mg_of X G a1
     f1 := fun_mk (st := top 9) l1 e1 k1
     b1 := (fun_mk (st := top 9) l1 e1 k1).binds (ps := psOf 1) fun _ _ _ _ _ _ us hl => match us, hl with | [_], _ => rfl
     m2 := PySem.W.mg_of X G a2
     f2 := fun_mk (st := top 10) l2 e2 k2
     b2 := (fun_mk (st := top 10) l2 e2 k2).binds (ps := psOf 2) fun _ _ _ _ _ _ us hl => match us, hl with | [_], _ => rfl
     m3 := PySem.W.mg_of X G a3
     f3 := fun_mk (st := top 11) l3 e3 k3
     b3 := (fun_mk (st := top 11) l3 e3 k3).binds (ps := psOf 3) fun _ _ _ _ _ _ us hl => match us, hl with | [_], _ => rfl
     m4 := PySem.W.mg_of X G a4
     f4 := fun_mk (st := top 12) l4 e4 k4
     b4 := (fun_mk (st := top 12) l4 e4 k4).binds (ps := psOf 4) fun _ _ _ _ _ _ us hl => match us, hl with | [_], _ => rfl
     m5 := PySem.W.mg_of X G a5
     f5 := fun_mk (st := top 13) l5 e5 k5
     b5 := (fun_mk (st := top 13) l5 e5 k5).binds (ps := psOf 5) fun _ _ _ _ _ _ us hl => match us, hl with | [_], _ => rfl
     m6 := PySem.W.mg_of X G a6
     f6 := fun_mk (st := top 14) l6 e6 k6
     b6 := (fun_mk (st := top 14) l6 e6 k6).binds (ps := psOf 6) fun _ _ _ _ _ _ us hl => match us, hl with | [_], _ => rfl
     m7 := PySem.W.mg_of X G a7
     f7 := fun_mk (st := top 15) l7 e7 k7
     b7 := (fun_mk (st := top 15) l7 e7 k7).binds (ps := psOf 7) fun _ _ _ _ _ _ us hl => match us, hl with | [_], _ => rfl
     m9 := PySem.W.mg_of X G a9
     f9 := fun_mk (st := top 17) l9 e9 k9
     b9 := (fun_mk (st := top 17) l9 e9 k9).binds (ps := psOf 9) fun _ _ _ _ _ _ us hl => match us, hl with | [_, _], _ => rfl
     m10 := PySem.W.mg_of X G a10
     f10 := fun_mk (st := top 18) l10 e10 k10
     b10 := (fun_mk (st := top 18) l10 e10 k10).binds (ps := psOf 10) fun _ _ _ _ _ _ us hl => match us, hl with | [_, _, _], _ => rfl
     m11 := PySem.W.mg_of X G a11
     f11 := fun_mk (st := top 19) l11 e11 k11
     b11 := (fun_mk (st := top 19) l11 e11 k11).binds (ps := psOf 11) fun _ _ _ _ _ _ us hl => match us, hl with | [_, _, _], _ => rfl
     m13 := PySem.W.mg_of X G a13
     f13 := fun_mk (st := top 24) l13 e13 k13
     b13 := (fun_mk (st := top 24) l13 e13 k13).binds (ps := psOf 13) fun _ _ _ _ _ _ us hl => match us, hl with | [_, _], _ => rfl
     m14 := PySem.W.mg_of X G a14
     f14 := fun_mk (st := top 25) l14 e14 k14
     b14 := (fun_mk (st := top 25) l14 e14 k14).binds (ps := psOf 14) fun _ _ _ _ _ _ us hl => match us, hl with | [_, _, _], _ => rfl
     m15 := PySem.W.mg_of X G a15
     f15 := fun_mk (st := top 26) l15 e15 k15
     b15 := (fun_mk (st := top 26) l15 e15 k15).binds (ps := psOf 15) fun _ _ _ _ _ _ us hl => match us, hl with | [_, _, _], _ => rfl
     m16 := PySem.W.mg_of X G a16
     f16 := fun_mk (st := top 27) l16 e16 k16
     b16 := (fun_mk (st := top 27) l16 e16 k16).binds (ps := psOf 16) fun _ _ _ _ _ _ us hl => match us, hl with | [_], _ => rfl
     m17 := PySem.W.mg_of X G a17
     f17 := fun_mk (st := top 28) l17 e17 k17
     b17 := (fun_mk (st := top 28) l17 e17 k17).binds (ps := psOf 17) fun _ _ _ _ _ _ us hl => match us, hl with | [_, _, _], _ => rfl
     m18 := PySem.W.mg_of X G a18
     f18 := fun_mk (st := top 29) l18 e18 k18
     b18 := (fun_mk (st := top 29) l18 e18 k18).binds (ps := psOf 18) fun _ _ _ _ _ _ us hl => match us, hl with | [_, _, _], _ => rfl
     m20 := PySem.W.mg_of X G a20
     f20 := fun_mk (st := top 20) l20 e20 k20
     b20 := (fun_mk (st := top 20) l20 e20 k20).binds (ps := psOf 20) fun _ _ _ _ _ _ us hl => match us, hl with | [_, _, _], _ => rfl
     m30 := PySem.W.mg_of X G a30
     f30 := fun_mk (st := top 21) l30 e30 k30
     b30 := (fun_mk (st := top 21) l30 e30 k30).binds (ps := psOf 30) fun _ _ _ _ _ _ us hl => match us, hl with | [_, _], _ => rfl
     m31 := PySem.W.mg_of X G a31
     f31 := fun_mk (st := top 22) l31 e31 k31
     b31 := (fun_mk (st := top 22) l31 e31 k31).binds (ps := psOf 31) fun _ _ _ _ _ _ us hl => match us, hl with | [_, _], _ => rfl
     m32 := PySem.W.mg_of X G a32
     f32 := fun_mk (st := top 30) l32 e32 k32
     b32 := (fun_mk (st := top 30) l32 e32 k32).binds (ps := psOf 32) fun _ _ _ _ _ _ us hl => match us, hl with | [_, _], _ => rfl
     m33 := PySem.W.mg_of X G a33
     f33 := fun_mk (st := top 31) l33 e33 k33
     b33 := (fun_mk (st := top 31) l33 e33 k33).binds (ps := psOf 33) fun _ _ _ _ _ _ us hl => match us, hl with | [_], _ => rfl
     z_isinstance := PySem.W.mg_none_of X G z_isinstance
     z_int := PySem.W.mg_none_of X G z_int
     z_bool := PySem.W.mg_none_of X G z_bool
     z_len := PySem.W.mg_none_of X G z_len
     z_tuple := PySem.W.mg_none_of X G z_tuple
     z_range := PySem.W.mg_none_of X G z_range
     z_all := PySem.W.mg_none_of X G z_all
     z_abs := PySem.W.mg_none_of X G z_abs
     z_max := PySem.W.mg_none_of X G z_max
     z_min := PySem.W.mg_none_of X G z_min
     z_sorted := PySem.W.mg_none_of X G z_sorted
     z_list := PySem.W.mg_none_of X G z_list
     c0 := PySem.W.mg_of X G c0
     c1 := PySem.W.mg_of X G c1
     c2 := PySem.W.mg_of X G c2
   }, rfl, fun s u => .of_eq rfl⟩
end
end LK
open PySem PySem.W PyProof.Rows
set_option maxRecDepth 100000 in
set_option maxHeartbeats 0 in
theorem PySem.Challenge.cw_leaperwalk_k04_parts_holds : PySem.Challenge.rw_leaperwalk_k04_parts.Holds := by
  w_on; o_law; k_head; (case hw => w_witness2)
  k_fill
  refine L2.walk_ofK (l := PySem.Challenge.rw_leaperwalk_k04_parts) (n := 63) (k := LK.depth) (x := "_law_script") (CX := L2.CX0) (sp := fun K => L2.LW.spA K (L2.LW.callA LK.U LK.fuel0 LK.depth) 33 []) rfl (by decide) rfl ⟨rfl, by decide, by decide⟩ (fun w h Y => PySem.W.kIn_of Y) ?F ?S ?C
  case F =>
    intro w mg fa h KX G hmg
    have TT := by
      refine' LK.txt_mk KX G ?a0 ?l0 ?e0 ?k0 ?a1 ?l1 ?e1 ?k1 ?a2 ?l2 ?e2 ?k2 ?a3 ?l3 ?e3 ?k3 ?a4 ?l4 ?e4 ?k4 ?a5 ?l5 ?e5 ?k5 ?a6 ?l6 ?e6 ?k6 ?a7 ?l7 ?e7 ?k7 ?a9 ?l9 ?e9 ?k9 ?a10 ?l10 ?e10 ?k10 ?a11 ?l11 ?e11 ?k11 ?a13 ?l13 ?e13 ?k13 ?a14 ?l14 ?e14 ?k14 ?a15 ?l15 ?e15 ?k15 ?a16 ?l16 ?e16 ?k16 ?a17 ?l17 ?e17 ?k17 ?a18 ?l18 ?e18 ?k18 ?a20 ?l20 ?e20 ?k20 ?a30 ?l30 ?e30 ?k30 ?a31 ?l31 ?e31 ?k31 ?a32 ?l32 ?e32 ?k32 ?a33 ?l33 ?e33 ?k33 ?z_isinstance ?z_int ?z_bool ?z_len ?z_tuple ?z_range ?z_all ?z_abs ?z_max ?z_min ?z_sorted ?z_list ?c0 ?c1 ?c2
      (case a0 => k_is)
      (case l0 => k_is)
      (case e0 => k_is)
      (case k0 => k_is)
      (case a1 => k_is)
      (case l1 => k_is)
      (case e1 => k_is)
      (case k1 => k_is)
      (case a2 => k_is)
      (case l2 => k_is)
      (case e2 => k_is)
      (case k2 => k_is)
      (case a3 => k_is)
      (case l3 => k_is)
      (case e3 => k_is)
      (case k3 => k_is)
      (case a4 => k_is)
      (case l4 => k_is)
      (case e4 => k_is)
      (case k4 => k_is)
      (case a5 => k_is)
      (case l5 => k_is)
      (case e5 => k_is)
      (case k5 => k_is)
      (case a6 => k_is)
      (case l6 => k_is)
      (case e6 => k_is)
      (case k6 => k_is)
      (case a7 => k_is)
      (case l7 => k_is)
      (case e7 => k_is)
      (case k7 => k_is)
      (case a9 => k_is)
      (case l9 => k_is)
      (case e9 => k_is)
      (case k9 => k_is)
      (case a10 => k_is)
      (case l10 => k_is)
      (case e10 => k_is)
      (case k10 => k_is)
      (case a11 => k_is)
      (case l11 => k_is)
      (case e11 => k_is)
      (case k11 => k_is)
      (case a13 => k_is)
      (case l13 => k_is)
      (case e13 => k_is)
      (case k13 => k_is)
      (case a14 => k_is)
      (case l14 => k_is)
      (case e14 => k_is)
      (case k14 => k_is)
      (case a15 => k_is)
      (case l15 => k_is)
      (case e15 => k_is)
      (case k15 => k_is)
      (case a16 => k_is)
      (case l16 => k_is)
      (case e16 => k_is)
      (case k16 => k_is)
      (case a17 => k_is)
      (case l17 => k_is)
      (case e17 => k_is)
      (case k17 => k_is)
      (case a18 => k_is)
      (case l18 => k_is)
      (case e18 => k_is)
      (case k18 => k_is)
      (case a20 => k_is)
      (case l20 => k_is)
      (case e20 => k_is)
      (case k20 => k_is)
      (case a30 => k_is)
      (case l30 => k_is)
      (case e30 => k_is)
      (case k30 => k_is)
      (case a31 => k_is)
      (case l31 => k_is)
      (case e31 => k_is)
      (case k31 => k_is)
      (case a32 => k_is)
      (case l32 => k_is)
      (case e32 => k_is)
      (case k32 => k_is)
      (case a33 => k_is)
      (case l33 => k_is)
      (case e33 => k_is)
      (case k33 => k_is)
      (case z_isinstance => k_is)
      (case z_int => k_is)
      (case z_bool => k_is)
      (case z_len => k_is)
      (case z_tuple => k_is)
      (case z_range => k_is)
      (case z_all => k_is)
      (case z_abs => k_is)
      (case z_max => k_is)
      (case z_min => k_is)
      (case z_sorted => k_is)
      (case z_list => k_is)
      (case c0 => k_is)
      (case c1 => k_is)
      (case c2 => k_is)
    obtain ⟨F, FD, TK, T, e0, hb⟩ := TT
    have e1 := hmg.symm.trans T.m33
    cases e1
    exact ⟨_, hb, fun base _ _ => LK.all_ok T LK.depth 33⟩
  case S => exact fun K H a ns hl _ hS => L2.LW.law_sp (LK.law_true_k04 ns hl) hS
  case C => exact fun _ _ _ _ z => z
