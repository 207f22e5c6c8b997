import PyProof.Rows.All
import Wide.All
import OpenK.AllK
import Wide.FinOn
import Lean
import PyProof.EqAt
import PyProof.EqKinds
import PyProof.TupleCall
import PyProof.SeqI3
import KE.KTupSum
import KE.LcSums
import KE.KDictSum
import KE.KTryMore
import PyProof.ExcBaseAll.ValueError
import OpenK.KOwn
import KE.RegKTryMore
import KE.RegKIsAll
import PyProof.ListMulRoad
import PyProof.Draws
import PyProof.EnumStmt
import PyProof.EnumMake
import PyProof.StrLawsTight
import PyProof.StrLawsChain
import PyProof.Rows.StrNews
import PyProof.Rows.StrJoin2
import PyProof.Rows.EnumRows
import PyProof.FString
import KE.KRevIter
import PySem.Challenge.RW_leaperwalk_k08_walks
set_option Elab.async false
set_option linter.all false
set_option maxRecDepth 100000
theorem jo1 {a b : Type} {x : Option a} {f : a → Option b} {y : b} : x.bind f = some y ↔ ∃ z, x = some z ∧ f z = some y := Option.bind_eq_some_iff
theorem jo2 {a b : Type} {x : Option a} {f : a → b} {y : b} : x.map f = some y ↔ ∃ z, x = some z ∧ f z = y := Option.map_eq_some_iff
set_option Elab.async false
set_option maxRecDepth 100000
namespace L2
open PySem PySem.Spec PyProof.Rows
noncomputable abbrev zn := Sum Int Str
noncomputable def jH : zn → Value → Bool
  | .inl k, v => Value.isInt k v
  | .inr x, v => Value.isStrOf x v
noncomputable def zez (w : World) : zn → Int
  | .inl k => hashInt k
  | .inr x => hashStr w x
theorem wM : ∀ {k : zn} {v : Value}, jH k v = true → (∃ i t, k = Sum.inl i ∧ v = Value.int i t) ∨ (∃ x t, k = Sum.inr x ∧ v = Value.str x t)
  | .inl i, v, h => by
    obtain ⟨t, e⟩ := Value.isInt_shape (k := i) (v := v) h
    exact .inl ⟨i, t, rfl, e⟩
  | .inr x, v, h => by
    obtain ⟨t, e⟩ := Value.isStrOf_shape (x := x) (v := v) h
    exact .inr ⟨x, t, rfl, e⟩
theorem zeA (i : Int) (t : Tok) : jH (.inl i) (.int i t) = true := by simp [jH, Value.isInt]
theorem zeB (x : Str) (t : Tok) : jH (.inr x) (.str x t) = true := by simp [jH, Value.isStrOf]
theorem zeC (a b : Int) : decide ((Sum.inl a : zn) = Sum.inl b) = (a == b) := by
  by_cases e : a = b
  · subst e; simp
  · have h : ¬ (Sum.inl a : zn) = Sum.inl b := fun q => e (Sum.inl.inj q)
    rw [decide_eq_false h]
    exact (beq_eq_false_iff_ne.mpr e).symm
theorem zeD (a b : Str) : decide ((Sum.inr a : zn) = Sum.inr b) = decide (a = b) := by
  by_cases e : a = b
  · subst e; simp
  · have h : ¬ (Sum.inr a : zn) = Sum.inr b := fun q => e (Sum.inr.inj q)
    rw [decide_eq_false h, decide_eq_false e]
theorem zeE (a : Int) (b : Str) : decide ((Sum.inl a : zn) = Sum.inr b) = false := decide_eq_false (fun q => nomatch q)
theorem zeF (a : Str) (b : Int) : decide ((Sum.inr a : zn) = Sum.inl b) = false := decide_eq_false (fun q => nomatch q)
noncomputable def yZ (prog : Program) (w : World) : PySem.KeyKind prog w zn where
  is := jH
  hash := zez w
  inj := fun v a b ha hb => by
    rcases wM ha with ⟨i, t, rfl, rfl⟩ | ⟨x, t, rfl, rfl⟩
    · rcases wM hb with ⟨j, u, rfl, e⟩ | ⟨y, u, rfl, e⟩
      · injection e with e1 _; rw [e1]
      · exact nomatch e
    · rcases wM hb with ⟨j, u, rfl, e⟩ | ⟨y, u, rfl, e⟩
      · exact nomatch e
      · injection e with e1 _; rw [e1]
  byValue := fun k v h => by
    rcases wM h with ⟨i, t, rfl, rfl⟩ | ⟨x, t, rfl, rfl⟩ <;> rfl
  pyHash := fun hv h => by
    rcases wM hv with ⟨i, t, rfl, rfl⟩ | ⟨x, t, rfl, rfl⟩
    · exact wpAny_pyHash_int h
    · exact wpAny_pyHash_str h
  eqBool := fun hu hv h => by
    rcases wM hu with ⟨i, t, rfl, rfl⟩ | ⟨x, t, rfl, rfl⟩
    · rcases wM hv with ⟨j, u, rfl, rfl⟩ | ⟨y, u, rfl, rfl⟩
      · rw [zeC] at h; exact wpAny_eqBool_int h
      · rw [zeE] at h; exact SeqAt.EqAt.int_str i t y u _ _ _ _ h
    · rcases wM hv with ⟨j, u, rfl, rfl⟩ | ⟨y, u, rfl, rfl⟩
      · rw [zeF] at h; exact SeqAt.EqAt.str_int x t j u _ _ _ _ h
      · rw [zeD] at h; exact wpAny_eqBool_str h
  «strs» := fun k x t v h => by
    rcases wM h with ⟨i, u, rfl, e⟩ | ⟨y, u, rfl, e⟩
    · exact nomatch e
    · injection e with e1 _
      subst e1
      cases v <;> rfl
theorem zeG (prog : Program) (w : World) (i : Int) (t : Tok) : (yZ prog w).is (.inl i) (.int i t) = true := zeA i t
theorem zeH (prog : Program) (w : World) (x : Str) (t : Tok) : (yZ prog w).is (.inr x) (.str x t) = true := zeB x t
end L2
namespace L2
open PySem PySem.Spec PyProof.Rows
inductive V where
  | non | bl (b : Bool) | int (i : Int) | str (x : Str) | byt (b : Array UInt8) | flt (b : UInt64) | ref (a : Addr) | ty (n : String)
  deriving DecidableEq
noncomputable def RelV : V → Value → Prop
  | .non, u => u = Value.none
  | .bl b, u => u = Value.bool b
  | .int i, u => ∃ t, u = Value.int i t
  | .str x, u => ∃ t, u = Value.str x t
  | .byt b, u => ∃ t, u = Value.bytes b t
  | .flt b, u => ∃ t, u = Value.float b t
  | .ref a, u => u = Value.ref a
  | .ty n, u => u = Value.type n
noncomputable abbrev Vals : List V → List Value → Prop := Paired RelV
theorem Vals.length {xs : List V} {us : List Value} (r : Vals xs us) : xs.length = us.length := Paired.length r
theorem Vals.get : ∀ {xs : List V} {us : List Value} {i : Nat} {x : V}, Vals xs us → xs[i]? = some x → ∃ u, us[i]? = some u ∧ RelV x u
  | _, _, _, _, .nil, e => by simp at e
  | _, _, 0, _, .cons r _, e => by simp at e; subst e; exact ⟨_, rfl, r⟩
  | _, _, i + 1, x, .cons _ t, e => by
    obtain ⟨u, h1, h2⟩ := Vals.get (i := i) (x := x) t (by simpa using e)
    exact ⟨u, by simpa using h1, h2⟩
theorem Vals.set {x : V} {u : Value} (r : RelV x u) : ∀ {xs : List V} {us : List Value} (i : Nat), Vals xs us → Vals (xs.set i x) (us.set i u)
  | _, _, _, .nil => .nil
  | _, _, 0, .cons _ t => .cons r t
  | _, _, i + 1, .cons q t => .cons q (Vals.set r i t)
theorem Vals.append : ∀ {xs ys : List V} {us ws : List Value}, Vals xs us → Vals ys ws → Vals (xs ++ ys) (us ++ ws)
  | _, _, _, _, .nil, s => s
  | _, _, _, _, .cons r t, s => .cons r (Vals.append t s)
theorem Vals.take : ∀ {xs : List V} {us : List Value} (n : Nat), Vals xs us → Vals (xs.take n) (us.take n)
  | _, _, 0, _ => .nil
  | _, _, _ + 1, .nil => .nil
  | _, _, n + 1, .cons r t => .cons r (Vals.take n t)
theorem Vals.drop : ∀ {xs : List V} {us : List Value} (n : Nat), Vals xs us → Vals (xs.drop n) (us.drop n)
  | _, _, 0, r => r
  | _, _, _ + 1, .nil => .nil
  | _, _, n + 1, .cons _ t => Vals.drop n t
noncomputable def RelO : Option V → Option Value → Prop
  | some v, some u => RelV v u
  | none, none => True
  | _, _ => False
noncomputable def KV {κ : Type} : List (κ × V) → List (κ × Value) → Prop := Paired fun (p : κ × V) (q : κ × Value) => p.1 = q.1 ∧ RelV p.2 q.2
noncomputable def kV : zn → V
  | .inl i => .int i
  | .inr x => .str x
inductive HO where
  | lst (xs : List V)
  | tup (xs : List V)
  | dK (kvs : List (zn × V)) | dT (kvs : List (List zn × V))
  | set (S : Int → Bool) (n : Nat)
  | ins (C dx : Addr) (fs : List (Str × V))
  | own (x : Addr)
  | xd (fs : List (Str × V))
  | met (f x : Addr)
  | rng (lo hi : Int)
  | frz (o : Obj) (u : HO)
  | tbl (ps : Array Value)
  | ext (φ : Heap → Prop)
noncomputable abbrev Hp := Addr → Option HO
noncomputable def zr (H : Hp) (a : Addr) (o : HO) : Hp := fun b => if b = a then some o else H b
theorem yf {H : Hp} {a : Addr} {o : HO} : zr H a o a = some o := by unfold zr; rw [if_pos rfl]
theorem zw {H : Hp} {a b : Addr} {o : HO} (h : b ≠ a) : zr H a o b = H b := by unfold zr; rw [if_neg h]
theorem XA {H : Hp} {a b : Addr} {o u : HO} (h : H a = some o) (h' : H b = some u) (d : o ≠ u) : a ≠ b := by
  intro e; subst e; rw [h] at h'; exact d (Option.some.inj h')
theorem wN {H : Hp} {a b : Addr} {o : HO} (h : H a = some o) (h' : H b = none) : a ≠ b := by
  intro e; subst e; rw [h] at h'; cases h'
section
variable (P : Program) (w : World)
noncomputable def ObjOk (H : Hp) (h : Heap) (a : Addr) : HO → Prop
  | .lst xs => xs.length ≤ sizeLine ∧ ∃ (its : List Value) (n : Nat), Vals xs its ∧ h.get? a = some { cls := .type "list", data := .seq its.toArray n }
  | .tup xs => xs.length ≤ sizeLine ∧ ∃ its : List Value, Vals xs its ∧ IsTup h a its.toArray
  | .dK kvs => kvs.length ≤ sizeLine ∧ (a == sysModules) = false ∧ ∃ vs, KV kvs vs ∧ h.DictOf (yZ P w) a vs
  | .dT kvs => kvs.length ≤ sizeLine ∧ (a == sysModules) = false ∧ ∃ xs : List (List zn × Addr × Value),
      Paired (fun (p : List zn × V) (q : List zn × Addr × Value) => p.1 = q.1 ∧ H q.2.1 = some (.tup (p.1.map kV)) ∧ RelV p.2 q.2.2) kvs xs ∧
      ∃ o es ep, h.get? a = some o ∧ o.ExactDict ∧ o.data = .dict es ep ∧ es.toList = xs.map (entryOfKey (tupleKind (yZ P w))) ∧ (xs.map (·.1)).Nodup
  | .set S n => h.SetOf (intKind P w) a S n
  | .ins C dx fs => H dx = some (.own a) ∧ fs.length ≤ 1000 ∧ dx ≠ a ∧ h.get? a = some (PySem.W.instObj C dx) ∧
      ∃ mA, h.Ns1 dx mA ∧ (∀ f, RelO (fs.lookup f) (mA f)) ∧ PySem.Within mA (fs.map (·.1))
  | .own _ => ∃ o, h.get? a = some o
  | .xd fs => ∃ mA, h.Ns1 a mA ∧ ∀ f, RelO (fs.lookup f) (mA f)
  | .rng lo hi => ∃ t u v, h.get? a = some { cls := .type "range", data := .fields #[.int lo t, .int hi u, .int 1 v] }
  | .frz o u => h.get? a = some o ∧ ObjOk H h a u
  | .tbl ps => h.get? a = some { cls := .none, data := .fields ps }
  | .met f x => h.get? a = some (PySem.W.methodObj (.ref f) (.ref x))
  | .ext φ => φ h ∧ (∃ o, h.get? a = some o) ∧ ∀ h1 h2 : Heap, φ h1 → (∀ o, h1.get? a = some o → h2.get? a = some o) → φ h2
noncomputable def HOk (H : Hp) (h : Heap) : Prop := ∀ a o, H a = some o → ObjOk P w H h a o
end
section
variable {P : Program} {w : World} {H H' : Hp} {h h' : Heap} {a : Addr} {o : HO}
theorem ObjOk.lt (x : ObjOk P w H h a o) : a < h.objs.size := by
  cases o with
  | lst xs => obtain ⟨_, _, _, _, e⟩ := x; exact Heap.lt_size e
  | tup xs => obtain ⟨_, _, _, p⟩ := x; exact p.lt
  | dK kvs => obtain ⟨_, _, _, _, o, _, _, e, _⟩ := x; exact Heap.lt_size e
  | dT kvs => obtain ⟨_, _, _, _, o, _, _, e, _⟩ := x; exact Heap.lt_size e
  | set S n => obtain ⟨o, _, _, _, e, _⟩ := x; exact Heap.lt_size e
  | ins C dx fs => obtain ⟨_, _, _, e, _⟩ := x; exact Heap.lt_size e
  | own y => obtain ⟨_, e⟩ := x; exact Heap.lt_size e
  | xd fs => obtain ⟨_, ⟨_, _, _, e, _⟩, _⟩ := x; exact Heap.lt_size e
  | rng lo hi => obtain ⟨_, _, _, e⟩ := x; exact Heap.lt_size e
  | frz ob u => obtain ⟨e, _⟩ := x; exact Heap.lt_size e
  | tbl ps => exact Heap.lt_size (show h.get? a = some _ from x)
  | met f y => exact Heap.lt_size (show h.get? a = some _ from x)
  | ext φ => obtain ⟨_, ⟨_, e⟩, _⟩ := x; exact Heap.lt_size e
theorem Paired.mapP {α β : Type} {F G : α → β → Prop} : ∀ {l₁ : List α} {l₂ : List β}, Paired F l₁ l₂ → (∀ a b, F a b → G a b) → Paired G l₁ l₂
  | _, _, .nil, _ => .nil
  | _, _, .cons r t, f => .cons (f _ _ r) (Paired.mapP t f)
theorem Paired.imp' {α β : Type} {F G : α → β → Prop} (f : ∀ a b, F a b → G a b) {l₁ : List α} {l₂ : List β} (r : Paired F l₁ l₂) : Paired G l₁ l₂ := Paired.mapP r f
theorem ObjOk.stay (x : ObjOk P w H h a o) (k : ∀ b u, (b = a ∨ H b = some (.own a)) → h.get? b = some u → h'.get? b = some u)
    (ho : ∀ b, H b = some (.own a) → H' b = some (.own a)) (ht : ∀ b xs, H b = some (.tup xs) → H' b = some (.tup xs)) : ObjOk P w H' h' a o := by
  induction o with
  | lst xs => obtain ⟨z, its, n, r, e⟩ := x; exact ⟨z, its, n, r, k _ _ (.inl rfl) e⟩
  | tup xs => obtain ⟨z, its, r, ob, e, c⟩ := x; exact ⟨z, its, r, ob, k _ _ (.inl rfl) e, c⟩
  | dK kvs => obtain ⟨z, y, vs, r, ob, es, ep, e, c⟩ := x; exact ⟨z, y, vs, r, ob, es, ep, k _ _ (.inl rfl) e, c⟩
  | dT kvs =>
    obtain ⟨z, y, xs, r, ob, es, ep, e, c⟩ := x
    exact ⟨z, y, xs, Paired.mapP r fun p q z => ⟨z.1, ht _ _ z.2.1, z.2.2⟩, ob, es, ep, k _ _ (.inl rfl) e, c⟩
  | set S n => obtain ⟨ob, es, ep, t, e, c⟩ := x; exact ⟨ob, es, ep, t, k _ _ (.inl rfl) e, c⟩
  | ins C dx fs =>
    obtain ⟨d, z, ne, e, mA, ⟨od, es, ep, e2, c⟩, r⟩ := x
    exact ⟨ho _ d, z, ne, k _ _ (.inl rfl) e, mA, ⟨od, es, ep, k _ _ (.inr d) e2, c⟩, r⟩
  | own y => obtain ⟨ob, e⟩ := x; exact ⟨ob, k _ _ (.inl rfl) e⟩
  | xd fs => obtain ⟨mA, ⟨od, es, ep, e, c⟩, r⟩ := x; exact ⟨mA, ⟨od, es, ep, k _ _ (.inl rfl) e, c⟩, r⟩
  | rng lo hi => obtain ⟨t, u, v, e⟩ := x; exact ⟨t, u, v, k _ _ (.inl rfl) e⟩
  | frz ob u ih => obtain ⟨e, q⟩ := x; exact ⟨k _ _ (.inl rfl) e, ih q⟩
  | tbl ps =>
    have e : h.get? a = some { cls := .none, data := .fields ps } := x
    show h'.get? a = some { cls := .none, data := .fields ps }
    exact k a _ (.inl rfl) e
  | met f y =>
    have e : h.get? a = some (PySem.W.methodObj (.ref f) (.ref y)) := x
    show h'.get? a = some (PySem.W.methodObj (.ref f) (.ref y))
    exact k a _ (.inl rfl) e
  | ext φ => obtain ⟨p, ⟨o, e⟩, st⟩ := x; exact ⟨st _ _ p fun o q => k _ _ (.inl rfl) q, ⟨o, k _ _ (.inl rfl) e⟩, st⟩
theorem HOk.lt (x : HOk P w H h) (e : H a = some o) : a < h.objs.size := (x a o e).lt
theorem HOk.fresh (x : HOk P w H h) (e : h.objs.size ≤ a) : H a = none := by
  cases q : H a with
  | none => rfl
  | some u => exact absurd (Nat.lt_of_lt_of_le (x.lt q) e) (Nat.lt_irrefl _)
theorem HOk.kept (x : HOk P w H h) (k : ∀ b u, h.get? b = some u → h'.get? b = some u) : HOk P w H h' := fun a o e =>
  (x a o e).stay (fun b u _ q => k b u q) (fun _ q => q) fun _ _ q => q
theorem HOk.laid (x : HOk P w H h) (k : ∀ b u, h.get? b = some u → h'.get? b = some u) (hp : h.objs.size ≤ a) (new : ObjOk P w (zr H a o) h' a o) : HOk P w (zr H a o) h' := fun b u e => by
  have hn := x.fresh hp
  by_cases hb : b = a
  · subst hb; rw [yf] at e; cases e; exact new
  · rw [zw hb] at e
    exact (x b u e).stay (fun c v _ q => k c v q) (fun c q => by rw [zw (wN q hn)]; exact q) fun c xs q => by rw [zw (wN q hn)]; exact q
end
noncomputable def Rd (H : Hp) (a : Addr) (u : HO) : Prop := H a = some u ∨ ∃ o, H a = some (.frz o u)
theorem Rd.of {H : Hp} {a : Addr} {u : HO} (h : H a = some u) : Rd H a u := .inl h
theorem Rd.ok {P : Program} {w : World} {H : Hp} {h : Heap} {a : Addr} {u : HO} (r : Rd H a u) (x : HOk P w H h) : ObjOk P w H h a u := by
  rcases r with r | ⟨o, r⟩
  · exact x a u r
  · obtain ⟨_, q⟩ := x a _ r
    exact q
noncomputable def ZI : Option HO → Prop
  | some (.lst _) => True
  | some (.dK _) => True
  | some (.dT _) => True
  | some (.set _ _) => True
  | some (.ins _ _ _) => True
  | some (.ext _) => True
  | _ => False
section
variable {P : Program} {w : World} {H : Hp} {h h' : Heap} {x e : Addr} {o' : HO}
theorem HOk.write (ok : HOk P w H h) (mu : ZI (H x)) (he : e = x ∨ H e = some (.own x)) (k : ∀ b u, b ≠ e → h.get? b = some u → h'.get? b = some u) (heo : ∃ u, h'.get? e = some u)
    (new : ObjOk P w (zr H x o') h' x o') : HOk P w (zr H x o') h' := fun b u q => by
  have nown : ∀ c y, H c = some (.own y) → c ≠ x := fun c y r z => by subst z; rw [r] at mu; exact mu
  have ntup : ∀ c xs, H c = some (.tup xs) → c ≠ x := fun c xs r z => by subst z; rw [r] at mu; exact mu
  by_cases hb : b = x
  · subst hb; rw [yf] at q; cases q; exact new
  · rw [zw hb] at q
    by_cases hbe : b = e
    · have q' : H b = some (.own x) := by
        rcases he with z | z
        · exact absurd (hbe.trans z) hb
        · rw [hbe]; exact z
      rw [q] at q'; cases q'
      obtain ⟨v, hv⟩ := heo
      exact ⟨v, by rw [hbe]; exact hv⟩
    · refine (ok b u q).stay (fun c v hc r => k c v ?_ r) (fun c r => by rw [zw (nown c b r)]; exact r) fun c xs r => by rw [zw (ntup c xs r)]; exact r
      rcases hc with rfl | hc
      · exact hbe
      · rintro rfl
        rcases he with z | z
        · exact nown c b hc z
        · rw [hc] at z; cases z; exact hb rfl
end
structure Un (fs ex : List Addr) (H H' : Hp) (h h' : Heap) : Prop where
  keep : ∀ b o, h.get? b = some o → H b = none → b ∉ fs → b ∉ ex → h'.get? b = some o
  slot : ∀ b o, h.get? b = some o → H b = none → b ∈ fs → b ∉ ex → ∃ sl, h'.get? b = some { o with slots := sl }
  free : ∀ b o, h.get? b = some o → H b = none → b ∉ ex → H' b = none
  there : ∀ b o, h.get? b = some o → b ∉ ex → ∃ o', h'.get? b = some o'
  tups : ∀ b xs, H b = some (.tup xs) → H' b = some (.tup xs)
  frzs : ∀ b o u, H b = some (.frz o u) → H' b = some (.frz o u)
  tbls : ∀ b ps, H b = some (.tbl ps) → ∃ more, H' b = some (.tbl (ps ++ more))
section
variable {fs fs' ex ex' : List Addr} {H H1 H2 : Hp} {h h1 h2 h' : Heap} {a x e : Addr} {o : HO}
theorem Un.any (u : Un fs ex H H1 h h1) {b : Addr} {ob : Obj} (q : h.get? b = some ob) (n : H b = none) (hx : b ∉ ex) : ∃ sl, h1.get? b = some { ob with slots := sl } := by
  by_cases hb : b ∈ fs
  · exact u.slot b ob q n hb hx
  · exact ⟨ob.slots, u.keep b ob q n hb hx⟩
theorem Un.trans (a : Un fs ex H H1 h h1) (b : Un fs ex H1 H2 h1 h2) : Un fs ex H H2 h h2 where
  keep := fun c ob q n hc hx => b.keep c ob (a.keep c ob q n hc hx) (a.free c ob q n hx) hc hx
  slot := fun c ob q n hc hx => by
    obtain ⟨sl, e1⟩ := a.slot c ob q n hc hx
    obtain ⟨sl', e2⟩ := b.slot c _ e1 (a.free c ob q n hx) hc hx
    exact ⟨sl', e2⟩
  free := fun c ob q n hx => by
    obtain ⟨o', e1⟩ := a.there c ob q hx
    exact b.free c o' e1 (a.free c ob q n hx) hx
  there := fun c ob q hx => by
    obtain ⟨o', e1⟩ := a.there c ob q hx
    exact b.there c o' e1 hx
  tups := fun c xs q => b.tups c xs (a.tups c xs q)
  frzs := fun c ob xs q => b.frzs c ob xs (a.frzs c ob xs q)
  tbls := fun c ps q => by
    obtain ⟨m1, e1⟩ := a.tbls c ps q
    obtain ⟨m2, e2⟩ := b.tbls c _ e1
    exact ⟨m1 ++ m2, by rw [e2, Array.append_assoc]⟩
theorem Un.kept (k : ∀ b u, h.get? b = some u → h'.get? b = some u) : Un fs ex H H h h' :=
  ⟨fun b ob q _ _ _ => k b ob q, fun b ob q _ _ _ => ⟨ob.slots, k b ob q⟩, fun _ _ _ n _ => n, fun b ob q _ => ⟨ob, k b ob q⟩, fun _ _ q => q, fun _ _ _ q => q, fun _ ps q => ⟨#[], by rw [q]; simp⟩⟩
theorem Un.refl : Un fs ex H H h h := Un.kept fun _ _ q => q
theorem Un.laid (k : ∀ b u, h.get? b = some u → h'.get? b = some u) (hp : h.objs.size ≤ a) (hn : H a = none) : Un fs ex H (zr H a o) h h' where
  keep := fun b u q _ _ _ => k b u q
  slot := fun b u q _ _ _ => ⟨u.slots, k b u q⟩
  free := fun b u q n _ => by rw [zw (Nat.ne_of_lt (Nat.lt_of_lt_of_le (Heap.lt_size q) hp))]; exact n
  there := fun b u q _ => ⟨u, k b u q⟩
  tups := fun b xs q => by rw [zw (wN q hn)]; exact q
  frzs := fun b u xs q => by rw [zw (wN q hn)]; exact q
  tbls := fun b ps q => ⟨#[], by rw [zw (wN q hn), q]; simp⟩
theorem Un.write (mu : ZI (H x)) (he : e = x ∨ H e = some (.own x)) (k : ∀ b u, b ≠ e → h.get? b = some u → h'.get? b = some u) (heo : ∃ u, h'.get? e = some u) : Un fs ex H (zr H x o) h h' := by
  have hx : ∀ b, H b = none → b ≠ x := fun b n z => by subst z; rw [n] at mu; exact mu
  have hb : ∀ b, H b = none → b ≠ e := fun b n z => by
    subst z
    rcases he with r | r
    · exact hx b n r
    · rw [n] at r; cases r
  have hm : ∀ b u, H b = some u → ¬ ZI (some u) → b ≠ x := fun b u q nm z => by subst z; rw [q] at mu; exact nm mu
  refine ⟨fun b u q n _ _ => k b u (hb b n) q, fun b u q n _ _ => ⟨u.slots, k b u (hb b n) q⟩, fun b u q n _ => by rw [zw (hx b n)]; exact n, fun b u q _ => ?_,
    fun b xs q => by rw [zw (hm b _ q fun z => z)]; exact q, fun b u xs q => by rw [zw (hm b _ q fun z => z)]; exact q, fun b ps q => ⟨#[], by rw [zw (hm b _ q fun z => z), q]; simp⟩⟩
  by_cases hbe : b = e
  · subst hbe; exact heo
  · exact ⟨u, k b u hbe q⟩
end
noncomputable def XB (h : Heap) (H : Hp) : List Addr := (List.range h.objs.size).filter fun a => (H a).isSome
noncomputable def vm (h : Heap) (H : Hp) : Heap := PySem.W.hideAll h (XB h H)
theorem zeI (h : Heap) (H : Hp) : (vm h H).objs.size = h.objs.size := PySem.W.hideAll_size _ _
theorem zeJ {h : Heap} {H : Hp} {b : Addr} {o : Obj} (e : h.get? b = some o) (n : H b = none) : (vm h H).get? b = some o :=
  PySem.W.hideAll_get _ e fun hm => by
    have q : (H b).isSome = true := (List.mem_filter.mp hm).2
    rw [n] at q; simp at q
theorem zeK {h : Heap} {H : Hp} {b : Addr} {o : Obj} (e : (vm h H).get? b = some o) : h.get? b = some o ∧ H b = none := by
  have e' : h.get? b = some o := PySem.W.of_hideAll (XB h H) e
  refine ⟨e', ?_⟩
  cases q : H b with
  | none => rfl
  | some x =>
    have hm : b ∈ XB h H := List.mem_filter.mpr ⟨List.mem_range.mpr (Heap.lt_size e'), by simp [q]⟩
    have z : (vm h H).get? b = none := PySem.W.hideAll_none (XB h H) hm
    rw [z] at e; cases e
noncomputable def zeL (g h : Heap) (L : Addr) : List (Addr × Obj) := (List.range h.objs.size).filterMap fun a => if a = L ∨ (g.get? a).isSome = true then none else (h.get? a).map fun o => (a, o)
noncomputable def zL (g h : Heap) (L d : Addr) : List (Addr × Obj) := (zeL g h L).filter fun p => decide (p.1 ≠ d)
end L2
namespace L2
open PySem PySem.Spec PyProof.Rows
structure Mod (K : PySem.W.Frag) (mg : Str → Option Value) (base : Heap) : Prop where
  kin : K.In base
  glob : base.Ns mainGlobals mg
  blt : ∃ mb, base.Ns builtinsNs mb ∧ ∀ x : Str, x ≠ "__name__" → mb x = bootBuiltins x
  nolimit : base.NoLimit
structure Cx where
  prog : Program
  w : World
  K : PySem.W.Frag
  mg : Str → Option Value
  base : Heap
  A : Around
  N : List Str
  s₀ : Shared
  H₀ : Hp
  env : Env
  outer : List Env
  stack : List Env
  ex : List Addr
  fn : Str → Bool
  calm : Bool
  pn : List (Addr × Obj)
  xe : Value → Shared → Prop
noncomputable def wg (l : List Env) : List Addr := l.filterMap (·.frame)
noncomputable abbrev Cx.fs (X : Cx) : List Addr := wg X.outer
noncomputable def wz (sc : Scope) (x : Str) : Prop := sc.names.lookup x = some .local ∨ sc.names.lookup x = some .cell ∨ sc.names.lookup x = some .free
noncomputable def wA (sc : Scope) (x : Str) : Prop := sc.names.lookup x = some .local ∨ sc.names.lookup x = some .cell
noncomputable def zeM (env : Env) (h : Heap) (m : Str → Option Value) (x : Str) (u : Value) : Prop :=
  (env.kindOf x = some .local ∧ m x = some u) ∨ ((env.kindOf x = some .cell ∨ env.kindOf x = some .free) ∧ ∃ c, env.cells.lookup x = some c ∧ h.IsCell c (some u))
structure Cx.Ok (X : Cx) : Prop where
  mod : Mod X.K X.mg X.base
  kind : X.env.scope.kind = .function
  glob : X.env.globals = mainGlobals
  blt : X.env.builtins = builtinsNs
  above : X.s₀.heap.objs.size ≤ X.env.locals
  inj : ∀ x y c, X.env.cells.lookup x = some c → X.env.cells.lookup y = some c → x = y
  has : ∀ x, (X.env.kindOf x = some .cell ∨ X.env.kindOf x = some .free) → ∃ c, X.env.cells.lookup x = some c
  cab : ∀ x c, X.fn x = true → X.env.cells.lookup x = some c → X.s₀.heap.objs.size ≤ c
  hd : X.calm = true → X.A.handled = none
  frames : X.A.frames = some X.stack
  stk : X.stack = X.outer ∨ (X.stack = X.env :: X.outer ∧ X.env.frame = some X.env.locals)
  exf : ∀ b ∈ X.ex, b ≠ X.env.locals ∧ ∀ x c, X.env.cells.lookup x = some c → c ≠ b
  bs : ∀ b o, X.base.get? b = some o → X.s₀.heap.get? b = some o ∧ X.H₀ b = none
  bsz : X.base.objs.size ≤ X.s₀.heap.objs.size
  noex : ∀ b o, X.base.get? b = some o → b ∉ X.ex
  exfs : ∀ b ∈ X.ex, b ∉ X.fs
  funs : X.s₀.heap.FunFrames X.base X.outer
  frf : ∀ b ∈ X.fs, X.H₀ b = none
structure Inv (X : Cx) (pins : List (Addr × Obj)) (σ : List (Option V)) (H : Hp) (s : Shared) : Prop where
  ok : X.Ok
  os : s.os = X.s₀.os
  bare : AllBare s.gens
  base : Un X.fs X.ex X.H₀ H X.s₀.heap s.heap
  loc : ∃ m, s.heap.Ns X.env.locals m ∧ ∀ (i : Nat) (x : Str) (v : V), X.N[i]? = some x → σ[i]? = some (some v) → wz X.env.scope x → ∃ u, RelV v u ∧ zeM X.env s.heap m x u
  cell : ∀ x c, X.env.cells.lookup x = some c → ∃ v, s.heap.IsCell c v
  free : H X.env.locals = none
  freeC : ∀ x c, X.env.cells.lookup x = some c → H c = none
  pin : ∀ p ∈ X.pn ++ pins, s.heap.get? p.1 = some p.2 ∧ H p.1 = none ∧ p.1 ≠ X.env.locals ∧ p.1 ∉ X.fs ∧ ∀ v, p.2.data ≠ .cell v
  hok : HOk X.prog X.w H s.heap
  len : σ.length = X.N.length
section
variable {X : Cx} {pins : List (Addr × Obj)} {σ : List (Option V)} {H H' : Hp} {s : Shared} {h' : Heap}
theorem Cx.Ok.nofr (ok : X.Ok) {b : Addr} {o : Obj} (e : X.base.get? b = some o) : b ∉ X.fs := fun hb => by
  have := (ok.funs.mem hb).1
  rw [e] at this; cases this
theorem Inv.bs (I : Inv X pins σ H s) : ∀ b o, X.base.get? b = some o → s.heap.get? b = some o ∧ H b = none := fun b o e =>
  ⟨I.base.keep b o (I.ok.bs b o e).1 (I.ok.bs b o e).2 (I.ok.nofr e) (I.ok.noex b o e), I.base.free b o (I.ok.bs b o e).1 (I.ok.bs b o e).2 (I.ok.noex b o e)⟩
theorem Inv.bk (I : Inv X pins σ H s) : ∀ b o, X.base.get? b = some o → s.heap.get? b = some o := fun b o e => (I.bs b o e).1
theorem Inv.mod (I : Inv X pins σ H s) : Mod X.K X.mg X.base := I.ok.mod
theorem Inv.kIn (I : Inv X pins σ H s) : X.K.In s.heap := I.ok.mod.kin.keeps I.bk
theorem Inv.nolimit (I : Inv X pins σ H s) : s.heap.NoLimit := I.ok.mod.nolimit.keeps I.bk
theorem Inv.fr (I : Inv X pins σ H s) : ∃ m, Fr X.base X.env.locals s.heap m :=
  let ⟨m, hn, _⟩ := I.loc
  ⟨m, hn, I.bk, Nat.le_trans I.ok.bsz I.ok.above⟩
theorem Inv.lt (I : Inv X pins σ H s) : X.env.locals < s.heap.objs.size := let ⟨_, hn, _⟩ := I.loc; hn.lt
theorem Inv.sz (I : Inv X pins σ H s) : X.s₀.heap.objs.size ≤ s.heap.objs.size := Nat.le_trans I.ok.above (Nat.le_of_lt I.lt)
theorem Inv.nofs (I : Inv X pins σ H s) {a : Addr} (h : s.heap.objs.size ≤ a) : a ∉ X.fs := fun hb => by
  obtain ⟨_, o, ho, _⟩ := I.ok.funs.mem hb
  exact absurd (Nat.lt_of_lt_of_le (Heap.lt_size ho) (Nat.le_trans I.sz h)) (Nat.lt_irrefl _)
theorem Inv.cne (I : Inv X pins σ H s) : ∀ x c, X.env.cells.lookup x = some c → c ≠ X.env.locals := fun x c e z => by
  obtain ⟨v, o, ho, hd⟩ := I.cell x c e
  obtain ⟨m, ⟨o', es, ep, ho', hd', _⟩, _⟩ := I.loc
  rw [z, ho'] at ho; cases ho; rw [hd'] at hd; cases hd
theorem Inv.funs (I : Inv X pins σ H s) : s.heap.FunFrames X.base X.outer := by
  have all : ∀ (l : List Env), (∀ b ∈ wg l, b ∈ X.fs) → X.s₀.heap.FunFrames X.base l → s.heap.FunFrames X.base l := by
    intro l
    induction l with
    | nil => intro _ _; trivial
    | cons env r ih =>
      intro hs hl
      obtain ⟨hk, ⟨L, o, hf, hn, ho, hd⟩, hr⟩ := hl
      have hL : L ∈ X.fs := hs L (by unfold wg; rw [List.filterMap_cons, hf]; exact List.mem_cons_self)
      obtain ⟨sl, e⟩ := I.base.slot L o ho (I.ok.frf L hL) hL fun z => I.ok.exfs L z hL
      exact ⟨hk, ⟨L, _, hf, hn, e, hd⟩, ih (fun b hb => hs b (by unfold wg; rw [List.filterMap_cons, hf]; exact List.mem_cons_of_mem _ hb)) hr⟩
  exact all X.outer (fun _ hb => hb) I.ok.funs
theorem Inv.stack (I : Inv X pins σ H s) : s.heap.FunFrames X.base X.stack := by
  rcases I.ok.stk with e | ⟨e, hf⟩
  · rw [e]; exact I.funs
  · rw [e]
    obtain ⟨m, hn, _⟩ := I.loc
    refine .cons (by rw [I.ok.kind]; decide) hf hn ?_ I.funs
    exact Heap.get?_none_of_le (Nat.le_trans I.ok.bsz I.ok.above)
theorem Inv.stkSub (I : Inv X pins σ H s) : ∀ b ∈ wg X.stack, b ∈ X.env.locals :: X.fs := fun b hb => by
  rcases I.ok.stk with e | ⟨e, hf⟩
  · rw [e] at hb; exact List.mem_cons_of_mem _ hb
  · rw [e] at hb
    unfold wg at hb
    rw [List.filterMap_cons, hf] at hb
    exact hb
theorem Inv.stkFree (I : Inv X pins σ H s) : ∀ b ∈ wg X.stack, H b = none := fun b hb => by
  rcases List.mem_cons.mp (I.stkSub b hb) with e | hb
  · rw [e]; exact I.free
  · obtain ⟨_, o, ho, _⟩ := I.ok.funs.mem hb
    exact I.base.free b o ho (I.ok.frf b hb) fun z => I.ok.exfs b z hb
theorem Inv.step {g' : Array GenState} {t' : Nat} {d' : Drawn} {ch : List Addr} (I : Inv X pins σ H s)
    (hch : ∀ b ∈ ch, (b ∈ X.ex ∨ X.s₀.heap.objs.size ≤ b) ∧ b ≠ X.env.locals ∧ (∀ x c, X.env.cells.lookup x = some c → c ≠ b) ∧ ∀ p ∈ X.pn ++ pins, p.1 ≠ b)
    (keep : ∀ b o, b ≠ X.env.locals → b ∉ X.fs → b ∉ ch → s.heap.get? b = some o → H b = none → h'.get? b = some o)
    (slot : ∀ b o, b ≠ X.env.locals → b ∈ X.fs → b ∉ ch → s.heap.get? b = some o → H b = none → ∃ sl, h'.get? b = some { o with slots := sl }) (free : ∀ b o, b ∉ ch → s.heap.get? b = some o → H b = none → H' b = none)
    (there : ∀ b o, b ∉ ch → s.heap.get? b = some o → ∃ o', h'.get? b = some o')
    (tups : ∀ b xs, H b = some (.tup xs) → H' b = some (.tup xs)) (frzs : ∀ b o u, H b = some (.frz o u) → H' b = some (.frz o u)) (tbls : ∀ b ps, H b = some (.tbl ps) → ∃ more, H' b = some (.tbl (ps ++ more)))
    (ns : ∀ m, s.heap.Ns X.env.locals m → h'.Ns X.env.locals m) (hok : HOk X.prog X.w H' h') (hg : AllBare g') :
    Inv X pins σ H' { s with heap := h', gens := g', drawn := d', toks := t' } := by
  have neL : ∀ b o, X.s₀.heap.get? b = some o → b ≠ X.env.locals := fun b o e => Nat.ne_of_lt (Nat.lt_of_lt_of_le (Heap.lt_size e) I.ok.above)
  have neC : ∀ b o, X.s₀.heap.get? b = some o → b ∉ X.ex → b ∉ ch := fun b o e hx hb => by
    rcases (hch b hb).1 with z | z
    · exact hx z
    · exact absurd (Nat.lt_of_lt_of_le (Heap.lt_size e) z) (Nat.lt_irrefl _)
  have cellK : ∀ x c, X.env.cells.lookup x = some c → ∀ v, s.heap.IsCell c v → h'.IsCell c v := fun x c e v ⟨o, ho, hd⟩ => by
    have nch : c ∉ ch := fun z => (hch c z).2.2.1 x c e rfl
    by_cases hc : c ∈ X.fs
    · obtain ⟨sl, q⟩ := slot c o (I.cne x c e) hc nch ho (I.freeC x c e)
      exact ⟨_, q, hd⟩
    · exact ⟨o, keep c o (I.cne x c e) hc nch ho (I.freeC x c e), hd⟩
  refine ⟨I.ok, I.os, hg, ⟨fun b o e n hb hx => ?_, fun b o e n hb hx => ?_, fun b o e n hx => ?_, fun b o e hx => ?_, fun b xs e => tups b xs (I.base.tups b xs e), fun b o xs e => frzs b o xs (I.base.frzs b o xs e), fun b ps e => ?_⟩, ?_, fun x c e => ?_, ?_, fun x c e => ?_, fun p hp => ?_, hok, I.len⟩
  · exact keep b o (neL b o e) hb (neC b o e hx) (I.base.keep b o e n hb hx) (I.base.free b o e n hx)
  · obtain ⟨sl, e1⟩ := I.base.slot b o e n hb hx
    obtain ⟨sl', e2⟩ := slot b _ (neL b o e) hb (neC b o e hx) e1 (I.base.free b o e n hx)
    exact ⟨sl', e2⟩
  · obtain ⟨o', e1⟩ := I.base.there b o e hx
    exact free b o' (neC b o e hx) e1 (I.base.free b o e n hx)
  · obtain ⟨o', e1⟩ := I.base.there b o e hx
    exact there b o' (neC b o e hx) e1
  · obtain ⟨m1, e1⟩ := I.base.tbls b ps e
    obtain ⟨m2, e2⟩ := tbls b _ e1
    exact ⟨m1 ++ m2, by rw [e2, Array.append_assoc]⟩
  · obtain ⟨m, hn, hl⟩ := I.loc
    refine ⟨m, ns m hn, fun i x v e1 e2 e3 => ?_⟩
    obtain ⟨u, r, l⟩ := hl i x v e1 e2 e3
    refine ⟨u, r, ?_⟩
    rcases l with l | ⟨k, c, e, z⟩
    · exact .inl l
    · exact .inr ⟨k, c, e, cellK x c e _ z⟩
  · obtain ⟨v, z⟩ := I.cell x c e
    exact ⟨v, cellK x c e v z⟩
  · obtain ⟨m, ⟨o, _, _, ho, _⟩, _⟩ := I.loc
    exact free _ o (fun z => (hch _ z).2.1 rfl) ho I.free
  · obtain ⟨v, o, ho, hd⟩ := I.cell x c e
    exact free c o (fun z => (hch c z).2.2.1 x c e rfl) ho (I.freeC x c e)
  · obtain ⟨e, n, ne, nf, d⟩ := I.pin p hp
    have nch : p.1 ∉ ch := fun z => (hch p.1 z).2.2.2 p hp rfl
    exact ⟨keep p.1 p.2 ne nf nch e n, free p.1 p.2 nch e n, ne, nf, d⟩
theorem Inv.un {t' : Nat} (I : Inv X pins σ H s) (u : Un X.fs [] H H' s.heap h') (hok : HOk X.prog X.w H' h') : Inv X pins σ H' { s with heap := h', toks := t' } := by
  obtain ⟨m, ⟨o, es, ep, ho, r⟩, _⟩ := id I.loc
  obtain ⟨sl, hL⟩ := u.any ho I.free (by simp)
  exact I.step (g' := s.gens) (d' := s.drawn) (ch := []) (fun _ z => nomatch z) (fun b o _ hb _ e n => u.keep b o e n hb (by simp)) (fun b o _ hb _ e n => u.slot b o e n hb (by simp)) (fun b o _ e n => u.free b o e n (by simp)) (fun b o _ e => u.there b o e (by simp)) u.tups u.frzs u.tbls (fun m' hm => by
    obtain ⟨o', es', ep', ho', r'⟩ := hm
    rw [ho] at ho'; cases ho'
    exact ⟨_, es', ep', hL, r'⟩) hok I.bare
theorem Inv.call {g' : Array GenState} {t' : Nat} {d' : Drawn} {ch : List Addr} (I : Inv X pins σ H s) (u : Un (wg X.stack) ch H H' s.heap h') (hok : HOk X.prog X.w H' h') (hg : AllBare g')
    (hch : ∀ b ∈ ch, (b ∈ X.ex ∨ X.s₀.heap.objs.size ≤ b) ∧ b ≠ X.env.locals ∧ (∀ x c, X.env.cells.lookup x = some c → c ≠ b) ∧ ∀ p ∈ X.pn ++ pins, p.1 ≠ b) :
    Inv X pins σ H' { s with heap := h', gens := g', drawn := d', toks := t' } := by
  obtain ⟨m, ⟨o, es, ep, ho, r⟩, _⟩ := id I.loc
  obtain ⟨sl, hL⟩ := u.any ho I.free fun z => (hch _ z).2.1 rfl
  exact I.step (ch := ch) hch (fun b o hL hb hc e n => u.keep b o e n (fun z => (List.mem_cons.mp (I.stkSub b z)).elim hL hb) hc) (fun b o _ _ hc e n => u.any e n hc) (fun b o hc e n => u.free b o e n hc) (fun b o hc e => u.there b o e hc) u.tups u.frzs u.tbls (fun m' hm => by
    obtain ⟨o', es', ep', ho', r'⟩ := hm
    rw [ho] at ho'; cases ho'
    exact ⟨_, es', ep', hL, r'⟩) hok hg
theorem Inv.turned {t' : Nat} {it : Addr} (I : Inv X pins σ H s) (k : ∀ b o, b ≠ it → s.heap.get? b = some o → h'.get? b = some o) (hn : H it = none) (hL : it ≠ X.env.locals)
    (h1 : it ∈ X.ex ∨ X.s₀.heap.objs.size ≤ it) (h2 : ∀ x c, X.env.cells.lookup x = some c → c ≠ it) (h3 : ∀ p ∈ X.pn ++ pins, p.1 ≠ it) : Inv X pins σ H { s with heap := h', toks := t' } := by
  have nit : ∀ b u, H b = some u → b ≠ it := fun b u e z => by rw [z, hn] at e; cases e
  refine I.step (g' := s.gens) (d' := s.drawn) (ch := [it]) (fun b hb => ?_) (fun b o _ _ hc e _ => k b o (fun z => hc (by simp [z])) e) (fun b o _ _ hc e _ => ⟨o.slots, k b o (fun z => hc (by simp [z])) e⟩) (fun _ _ _ _ n => n)
    (fun b o hc e => ⟨o, k b o (fun z => hc (by simp [z])) e⟩) (fun _ _ e => e) (fun _ _ _ e => e) (fun b ps e => ⟨#[], by rw [e]; simp⟩) (fun m hm => ?_) (fun b u e => ?_) I.bare
  · have e : b = it := by simpa using hb
    subst e
    exact ⟨h1, hL, h2, h3⟩
  · obtain ⟨o, es, ep, ho, r⟩ := hm
    exact ⟨o, es, ep, k _ o (Ne.symm hL) ho, r⟩
  · refine (I.hok b u e).stay (fun c v hc q => k c v ?_ q) (fun _ q => q) fun _ _ q => q
    rcases hc with z | z
    · rw [z]; exact nit b u e
    · exact nit c _ z
theorem Inv.tok (I : Inv X pins σ H s) (t : Nat) : Inv X pins σ H { s with toks := t } := I.un (h' := s.heap) (t' := t) Un.refl I.hok
theorem Inv.kept {t' : Nat} (I : Inv X pins σ H s) (k : ∀ b u, s.heap.get? b = some u → h'.get? b = some u) : Inv X pins σ H { s with heap := h', toks := t' } := I.un (Un.kept k) (I.hok.kept k)
theorem Inv.laid {a : Addr} {o : HO} {t' : Nat} (I : Inv X pins σ H s) (k : ∀ b u, s.heap.get? b = some u → h'.get? b = some u) (hp : s.heap.objs.size ≤ a) (new : ObjOk X.prog X.w (zr H a o) h' a o) :
    Inv X pins σ (zr H a o) { s with heap := h', toks := t' } := I.un (Un.laid k hp (I.hok.fresh hp)) (I.hok.laid k hp new)
theorem Inv.write {x e : Addr} {o : HO} {t' : Nat} (I : Inv X pins σ H s) (mu : ZI (H x)) (he : e = x ∨ H e = some (.own x)) (k : ∀ b u, b ≠ e → s.heap.get? b = some u → h'.get? b = some u) (heo : ∃ u, h'.get? e = some u)
    (new : ObjOk X.prog X.w (zr H x o) h' x o) : Inv X pins σ (zr H x o) { s with heap := h', toks := t' } := I.un (Un.write mu he k heo) (I.hok.write mu he k heo new)
theorem Inv.pins_of {pins' : List (Addr × Obj)} (I : Inv X pins σ H s) (h : ∀ p ∈ pins', s.heap.get? p.1 = some p.2 ∧ H p.1 = none ∧ p.1 ≠ X.env.locals ∧ p.1 ∉ X.fs ∧ ∀ v, p.2.data ≠ .cell v) : Inv X pins' σ H s :=
  ⟨I.ok, I.os, I.bare, I.base, I.loc, I.cell, I.free, I.freeC, fun p hp => (List.mem_append.mp hp).elim (fun z => I.pin p (List.mem_append_left _ z)) (h p), I.hok, I.len⟩
theorem gf {N : List Str} (hN : N.Nodup) {i j : Nat} {x : Str} (a : N[i]? = some x) (b : N[j]? = some x) : i = j := by
  obtain ⟨h1, e1⟩ := List.getElem?_eq_some_iff.mp a
  obtain ⟨h2, e2⟩ := List.getElem?_eq_some_iff.mp b
  exact (List.getElem_inj hN).mp (e1.trans e2.symm)
theorem gg {M : Model} {A : Around} {E : Value → Shared → Prop} {i : Nat} {x : Str} {v : V} {u : Value} {Q : Unit → Shared → Prop} (I : Inv X pins σ H s) (hN : X.N.Nodup) (hi : X.N[i]? = some x) (hx : wA X.env.scope x) (r : RelV v u)
    (h : ∀ s', Inv X pins (σ.set i (some v)) H s' → (∃ a, Heap.SameBut a s.heap s'.heap ∧ (a = X.env.locals ∨ X.env.cells.lookup x = some a)) → Q () s') (hf : X.fn x = true ∨ X.env.scope.names.lookup x = some .local := by first | exact .inl rfl | exact .inr rfl | assumption) : wpAny M A (storeName X.env x u) Q E s := by
  obtain ⟨m, hn, hl⟩ := id I.loc
  have hcls : (X.env.scope.kind == .class || (X.env.scope.kind == .module && X.env.locals != X.env.globals)) = false := by rw [I.ok.kind]; rfl
  have hiσ : i < σ.length := by rw [I.len]; exact (List.getElem?_eq_some_iff.mp hi).1
  have cne := I.cne
  have tracked : ∀ {a : Addr} {h' : Heap}, (∃ o, s.heap.get? a = some o ∧ H a = none) → Heap.SameBut a s.heap h' → HOk X.prog X.w H h' := fun {a h'} ha hs b ob e => by
    obtain ⟨_, _, hfree⟩ := ha
    refine (I.hok b ob e).stay (fun c w' hc q => (hs.2 c ?_).trans q) (fun _ q => q) fun _ _ q => q
    rintro rfl
    rcases hc with rfl | hc
    · rw [hfree] at e; cases e
    · rw [hfree] at hc; cases hc
  rcases hx with hk | hk
  · refine wpAny_storeName_local hk hn (fun h' hn' hs => ?_) hcls
    obtain ⟨oL, _, _, hoL, _⟩ := id hn
    refine h _ ⟨I.ok, I.os, I.bare, ⟨fun b o e n hb hx => ?_, fun b o e n hb hx => ?_, I.base.free, fun b o e hx => ?_, I.base.tups, I.base.frzs, I.base.tbls⟩, ⟨_, hn', fun j y v' e1 e2 e3 => ?_⟩, fun y c e => ?_, I.free, I.freeC, fun p hp => ?_, tracked ⟨oL, hoL, I.free⟩ hs, by simpa using I.len⟩ ⟨_, hs, .inl rfl⟩
    · exact (hs.2 b (Nat.ne_of_lt (Nat.lt_of_lt_of_le (Heap.lt_size e) I.ok.above))).trans (I.base.keep b o e n hb hx)
    · obtain ⟨sl, e1⟩ := I.base.slot b o e n hb hx
      exact ⟨sl, (hs.2 b (Nat.ne_of_lt (Nat.lt_of_lt_of_le (Heap.lt_size e) I.ok.above))).trans e1⟩
    · obtain ⟨o', e1⟩ := I.base.there b o e hx
      exact ⟨o', (hs.2 b (Nat.ne_of_lt (Nat.lt_of_lt_of_le (Heap.lt_size e) I.ok.above))).trans e1⟩
    · by_cases hj : j = i
      · subst hj
        rw [hi] at e1; cases e1
        rw [List.getElem?_set_self hiσ] at e2
        cases e2
        exact ⟨u, r, .inl ⟨hk, by simp⟩⟩
      · rw [List.getElem?_set_ne (Ne.symm hj)] at e2
        obtain ⟨u', r', q⟩ := hl j y v' e1 e2 e3
        refine ⟨u', r', ?_⟩
        rcases q with ⟨k, e⟩ | ⟨k, c, e, z⟩
        · refine .inl ⟨k, ?_⟩
          have : y ≠ x := fun e => hj (gf hN e1 (e ▸ hi))
          simp [this, e]
        · exact .inr ⟨k, c, e, z.sameBut hs (cne y c e)⟩
    · obtain ⟨w', z⟩ := I.cell y c e
      exact ⟨w', z.sameBut hs (cne y c e)⟩
    · obtain ⟨e, n, ne, nf, d⟩ := I.pin p hp
      exact ⟨(hs.2 p.1 ne).trans e, n, ne, nf, d⟩
  · have hfn : X.fn x = true := by
      rcases hf with z | z
      · exact z
      · rw [z] at hk; cases hk
    obtain ⟨c, hc⟩ := I.ok.has x (.inl hk)
    obtain ⟨w', z⟩ := I.cell x c hc
    refine wpAny_storeName_cell I.ok.kind hk hc z (fun h' hc' hs => ?_)
    obtain ⟨oc, hoc, hocd⟩ := id z
    refine h { s with heap := h' } ⟨I.ok, I.os, I.bare, ⟨fun b o e n hb hx => ?_, fun b o e n hb hx => ?_, I.base.free, fun b o e hx => ?_, I.base.tups, I.base.frzs, I.base.tbls⟩, ⟨m, hn.sameBut hs (Ne.symm (cne x c hc)), fun j y v' e1 e2 e3 => ?_⟩, fun y c' e => ?_, I.free, I.freeC, fun p hp => ?_, tracked ⟨oc, hoc, I.freeC x c hc⟩ hs, by simpa using I.len⟩ ⟨c, hs, .inr hc⟩
    · exact (hs.2 b (Nat.ne_of_lt (Nat.lt_of_lt_of_le (Heap.lt_size e) (I.ok.cab x c hfn hc)))).trans (I.base.keep b o e n hb hx)
    · obtain ⟨sl, e1⟩ := I.base.slot b o e n hb hx
      exact ⟨sl, (hs.2 b (Nat.ne_of_lt (Nat.lt_of_lt_of_le (Heap.lt_size e) (I.ok.cab x c hfn hc)))).trans e1⟩
    · obtain ⟨o', e1⟩ := I.base.there b o e hx
      exact ⟨o', (hs.2 b (Nat.ne_of_lt (Nat.lt_of_lt_of_le (Heap.lt_size e) (I.ok.cab x c hfn hc)))).trans e1⟩
    · by_cases hj : j = i
      · subst hj
        rw [hi] at e1; cases e1
        rw [List.getElem?_set_self hiσ] at e2
        cases e2
        exact ⟨u, r, .inr ⟨.inl hk, c, hc, hc'⟩⟩
      · rw [List.getElem?_set_ne (Ne.symm hj)] at e2
        obtain ⟨u', r', q⟩ := hl j y v' e1 e2 e3
        refine ⟨u', r', ?_⟩
        rcases q with q | ⟨k, c', e, z'⟩
        · exact .inl q
        · refine .inr ⟨k, c', e, z'.sameBut hs ?_⟩
          rintro rfl
          exact hj (gf hN e1 (I.ok.inj _ _ _ e hc ▸ hi))
    · by_cases hcc : c' = c
      · subst hcc; exact ⟨_, hc'⟩
      · obtain ⟨w2, z2⟩ := I.cell y c' e
        exact ⟨w2, z2.sameBut hs hcc⟩
    · obtain ⟨e, n, ne, nf, d⟩ := I.pin p hp
      refine ⟨(hs.2 p.1 ?_).trans e, n, ne, nf, d⟩
      intro q
      rw [q, hoc] at e
      have q' : oc = p.2 := Option.some.inj e
      exact d w' (by rw [← q']; exact hocd)
theorem gh {M : Model} {A : Around} {E : Value → Shared → Prop} {i : Nat} {x : Str} {v : V} {u : Value} {Q : Unit → Shared → Prop} (I : Inv X pins σ H s) (hN : X.N.Nodup) (hi : X.N[i]? = some x) (hx : wA X.env.scope x) (r : RelV v u)
    (h : ∀ s', Inv X pins (σ.set i (some v)) H s' → Q () s') (hf : X.fn x = true ∨ X.env.scope.names.lookup x = some .local := by first | exact .inl rfl | exact .inr rfl | assumption) : wpAny M A (storeName X.env x u) Q E s :=
  gg I hN hi hx r (fun s' I' _ => h s' I') hf
theorem Inv.call' {s' : Shared} {ch : List Addr} (I : Inv X pins σ H s) (ho : s'.os = s.os) (u : Un (wg X.stack) ch H H' s.heap s'.heap) (hok : HOk X.prog X.w H' s'.heap) (hg : AllBare s'.gens)
    (hch : ∀ b ∈ ch, (b ∈ X.ex ∨ X.s₀.heap.objs.size ≤ b) ∧ b ≠ X.env.locals ∧ (∀ x c, X.env.cells.lookup x = some c → c ≠ b) ∧ ∀ p ∈ X.pn ++ pins, p.1 ≠ b) : Inv X pins σ H' s' := by
  obtain ⟨h', g', d', t', o'⟩ := s'
  have e : o' = s.os := ho
  subst e
  exact I.call (g' := g') (t' := t') (d' := d') u hok hg hch
end
noncomputable abbrev XK := Value → Option Addr → Hp → Prop
noncomputable abbrev St := List (Option V)
noncomputable abbrev VK := V → Hp → Prop
noncomputable abbrev TE := St → Hp → VK → Prop
noncomputable abbrev TT := St → Hp → (Bool → Hp → Prop) → Prop
noncomputable abbrev TA := St → Hp → (List V → Hp → Prop) → Prop
structure Ends where
  nx : St → Hp → Prop
  rt : VK
  bk : St → Hp → Prop := fun _ _ => False
  ct : St → Hp → Prop := fun _ _ => False
noncomputable abbrev TS := Ends → St → Hp → Prop
noncomputable def EP (X : Cx) (pins : List (Addr × Obj)) (σ : St) (Q : VK) (u : Value) (s' : Shared) : Prop := ∃ v H', Inv X pins σ H' s' ∧ RelV v u ∧ Q v H'
noncomputable def TP (X : Cx) (pins : List (Addr × Obj)) (σ : St) (Q : Bool → Hp → Prop) (b : Bool) (s' : Shared) : Prop := ∃ H', Inv X pins σ H' s' ∧ Q b H'
noncomputable def AP (X : Cx) (pins : List (Addr × Obj)) (σ : St) (Q : List V → Hp → Prop) (us : List Value) (s' : Shared) : Prop := ∃ vs H', Inv X pins σ H' s' ∧ Vals vs us ∧ Q vs H'
noncomputable def SP (X : Cx) (pins : List (Addr × Obj)) (D : Ends) (f : Flow) (s' : Shared) : Prop :=
  match f with
  | .next => ∃ σ' H', Inv X pins σ' H' s' ∧ D.nx σ' H'
  | .brk => ∃ σ' H', Inv X pins σ' H' s' ∧ D.bk σ' H'
  | .cont => ∃ σ' H', Inv X pins σ' H' s' ∧ D.ct σ' H'
  | .ret u => ∃ v σ' H', Inv X pins σ' H' s' ∧ RelV v u ∧ D.rt v H'
noncomputable def PE (X : Cx) (e : Expr) (t : TE) : Prop :=
  ∀ (pins : List (Addr × Obj)) (s : Shared) (σ : St) (H : Hp) (Q : VK), Inv X pins σ H s → t σ H Q → wpAny (model X.prog X.w) X.A (eval e X.env) (EP X pins σ Q) X.xe s
noncomputable def PT (X : Cx) (e : Expr) (t : TT) : Prop :=
  ∀ (pins : List (Addr × Obj)) (s : Shared) (σ : St) (H : Hp) (Q : Bool → Hp → Prop), Inv X pins σ H s → t σ H Q → wpAny (model X.prog X.w) X.A (isTrue e X.env (eval e X.env)) (TP X pins σ Q) X.xe s
noncomputable def PW (X : Cx) (e : Expr) (t : TT) : Prop :=
  ∀ (whole : Sem Value) (pins : List (Addr × Obj)) (s : Shared) (σ : St) (H : Hp) (Q : Bool → Hp → Prop), Inv X pins σ H s → t σ H Q → wpAny (model X.prog X.w) X.A (isTrue e X.env whole) (TP X pins σ Q) X.xe s
theorem PW.pt {X : Cx} {e : Expr} {t : TT} (h : PW X e t) : PT X e t := h _
noncomputable def PA (X : Cx) (es : List Expr) (t : TA) : Prop :=
  ∀ (pos : Pos) (pins : List (Addr × Obj)) (s : Shared) (σ : St) (H : Hp) (Q : List V → Hp → Prop), Inv X pins σ H s → t σ H Q → wpAny (model X.prog X.w) X.A (spliced (backTo pos (starEach es X.env))) (AP X pins σ Q) X.xe s
noncomputable def PS (X : Cx) (st : Stmt) (t : TS) : Prop :=
  ∀ (pins : List (Addr × Obj)) (s : Shared) (σ : St) (H : Hp) (D : Ends), Inv X pins σ H s → t D σ H → wpAny (model X.prog X.w) X.A (exec st X.env) (SP X pins D) X.xe s
noncomputable def PSs (X : Cx) (st : List Stmt) (t : TS) : Prop :=
  ∀ (pins : List (Addr × Obj)) (s : Shared) (σ : St) (H : Hp) (D : Ends), Inv X pins σ H s → t D σ H → wpAny (model X.prog X.w) X.A (execs st X.env) (SP X pins D) X.xe s
theorem zk {α : Type} {t : Sem α} {Q Q' : α → Shared → Prop} {M : Model} {A : Around} {E : Value → Shared → Prop} {s : Shared} (h : wpAny M A t Q E s) (hQ : ∀ a s, Q a s → Q' a s) : wpAny M A t Q' E s := wpAny_mono h hQ fun _ _ x => x
end L2
namespace L2
open PySem PySem.Spec PyProof.Rows
section
variable {X : Cx}
noncomputable def yO (i : Nat) : TE := fun σ H Q => ∃ v, σ[i]? = some (some v) ∧ Q v H
noncomputable def tC (v : V) : TE := fun _ H Q => Q v H
theorem yC {i : Nat} {x : Str} {pos : Pos} (hN : X.N[i]? = some x) (hv : wz X.env.scope x) (hd : (x == ("__debug__" : Str)) = false := by decide) (hcd : (x == ("__classdict__" : Str)) = false := by decide) : PE X (.Name x pos) (yO i) := by
  intro pins s σ H Q I h
  obtain ⟨v, e, h⟩ := h
  obtain ⟨m, hn, hl⟩ := I.loc
  obtain ⟨u, r, l⟩ := hl i x v hN e hv
  have fin : EP X pins σ Q u s := ⟨v, H, I, r, h⟩
  rcases l with ⟨hk, hm⟩ | ⟨hk, c, hc, ZJ⟩
  · exact wpAny_Name (wpAny_loadName_local I.ok.kind hk hn hm fin) hd
  · rcases hk with hk | hk
    · exact wpAny_Name (wpAny_loadName_cell I.ok.kind hk hc ZJ fin) hd
    · exact wpAny_Name (wpAny_loadName_free I.ok.kind hk hc ZJ fin hcd) hd
theorem zeN {i j pos} : PE X (.Constant (.int i) j pos) (tC (.int i)) := fun _ _ _ H _ I h => wpAny_Constant_int ⟨.int i, H, I.tok _, ⟨_, rfl⟩, h⟩
theorem zeO {b j pos} : PE X (.Constant (.bool b) j pos) (tC (.bl b)) := fun _ _ _ H _ I h => Constant_bool ⟨.bl b, H, I, rfl, h⟩
theorem zeP {j pos} : PE X (.Constant .none j pos) (tC .non) := fun _ _ _ H _ I h => Constant_none ⟨.non, H, I, rfl, h⟩
noncomputable def Gl (X : Cx) (x : Str) : Prop := X.env.kindOf x = some .globalImplicit
theorem gk {E : Value → Shared → Prop} {pins : List (Addr × Obj)} {s : Shared} {σ : St} {H : Hp} {x : Str} {u : Value} {pos : Pos} {Q : Value → Shared → Prop} (I : Inv X pins σ H s) (hg : Gl X x) (hm : X.mg x = some u) (h : Q u s)
    (hd : (x == ("__debug__" : Str)) = false := by decide) : wpAny (model X.prog X.w) X.A (eval (.Name x pos) X.env) Q E s :=
  Calls.Name_function_global I.ok.kind hg (Calls.loadGlobal_global (by rw [I.ok.glob]; exact I.mod.glob.keeps I.bk) hm h) hd
theorem ja {E : Value → Shared → Prop} {pins : List (Addr × Obj)} {s : Shared} {σ : St} {H : Hp} {x : Str} {u : Value} {pos : Pos} {Q : Value → Shared → Prop} (I : Inv X pins σ H s) (hg : Gl X x) (hm : X.mg x = none) (hv : bootBuiltins x = some u) (h : Q u s)
    (hn : x ≠ "__name__" := by decide) (hd : (x == ("__debug__" : Str)) = false := by decide) : wpAny (model X.prog X.w) X.A (eval (.Name x pos) X.env) Q E s := by
  obtain ⟨mb, h1, h2⟩ := I.mod.blt
  exact Calls.Name_function_global I.ok.kind hg (Calls.loadGlobal_builtin (by rw [I.ok.glob]; exact I.mod.glob.keeps I.bk) hm (by rw [I.ok.blt]; exact h1.keeps I.bk) ((h2 x hn).trans hv) h) hd
theorem zeQ {x : Str} {v : V} {u : Value} {pos : Pos} (hg : Gl X x) (hm : X.mg x = some u) (r : RelV v u) (hd : (x == ("__debug__" : Str)) = false := by decide) : PE X (.Name x pos) (tC v) :=
  fun _ _ _ H _ I h => gk I hg hm ⟨v, H, I, r, h⟩ hd
theorem zeR {x : Str} {v : V} {u : Value} {pos : Pos} (hg : Gl X x) (hm : X.mg x = none) (hv : bootBuiltins x = some u) (r : RelV v u) (hn : x ≠ "__name__" := by decide) (hd : (x == ("__debug__" : Str)) = false := by decide) : PE X (.Name x pos) (tC v) :=
  fun _ _ _ H _ I h => ja I hg hm hv ⟨v, H, I, r, h⟩ hn hd
variable {a b : Expr} {ta tb : TE} {pos : Pos}
noncomputable def PC (X : Cx) (op : CmpOp) (a b : Expr) (t : TE) : Prop :=
  ∀ (pins : List (Addr × Obj)) (s : Shared) (σ : St) (H : Hp) (Q : VK), Inv X pins σ H s → t σ H Q →
    wpAny (model X.prog X.w) X.A (eval a X.env) (fun v s₁ => wpAny (model X.prog X.w) X.A (eval b X.env) (fun u s₂ => wpAny (model X.prog X.w) X.A (compareOp op v u) (EP X pins σ Q) X.xe s₂) X.xe s₁) X.xe s
theorem gl (b : Expr) {op : CmpOp} (h : op ≠ .In) (h2 : op ≠ .NotIn) : behindInMarks op b = false := by
  have e1 : (op == CmpOp.In) = false := by cases op <;> first | rfl | exact absurd rfl h
  have e2 : (op == CmpOp.NotIn) = false := by cases op <;> first | rfl | exact absurd rfl h2
  cases b <;> simp [behindInMarks, e1, e2]
noncomputable def zeS (ta : TE) : TE := fun σ H Q => ta σ H fun x H1 => Q (.bl (decide (x = .non))) H1
noncomputable def zeT (ta : TE) : TE := fun σ H Q => ta σ H fun x H1 => Q (.bl (!decide (x = .non))) H1
theorem RelV.none_iff {x : V} {v : Value} (r : RelV x v) : (v == Value.none) = decide (x = .non) := by
  cases x with
  | non => cases r; rfl
  | bl _ => cases r; rfl
  | int _ => obtain ⟨t, rfl⟩ := r; rfl
  | str _ => obtain ⟨t, rfl⟩ := r; rfl
  | byt _ => obtain ⟨t, rfl⟩ := r; rfl
  | flt _ => obtain ⟨t, rfl⟩ := r; rfl
  | ref _ => cases r; rfl
  | ty _ => cases r; rfl
theorem zeU {j pos'} (ha : PE X a ta) : PC X .Is a (.Constant .none j pos') (zeS ta) := by
  intro pins s σ H Q I h
  refine zk (ha pins s σ H _ I h) fun v s1 ⟨x, H1, I1, r1, q1⟩ => ?_
  exact Constant_none (is_none_gen ⟨.bl _, H1, I1, by rw [r1.none_iff]; rfl, q1⟩)
theorem gp {j pos'} (ha : PE X a ta) : PC X .IsNot a (.Constant .none j pos') (zeT ta) := by
  intro pins s σ H Q I h
  refine zk (ha pins s σ H _ I h) fun v s1 ⟨x, H1, I1, r1, q1⟩ => ?_
  exact Constant_none (isnot_none_gen ⟨.bl _, H1, I1, by rw [r1.none_iff]; rfl, q1⟩)
noncomputable def tB (t : TE) : TT := fun σ H Q => t σ H fun x H1 => ∃ c, x = .bl c ∧ Q c H1
theorem zeV {op : CmpOp} {t : TE} (h : PC X op a b t) (h1 : behindInMarks op b = false := by first | exact gl _ (by decide) (by decide) | rfl) : PE X (.Compare a [op] [b] pos) t := fun pins s σ H Q I hw => wpAny_Compare1 (h pins s σ H Q I hw) h1
theorem JK {op : CmpOp} {t : TE} (h : PC X op a b t) (h1 : behindInMarks op b = false := by first | exact gl _ (by decide) (by decide) | rfl) : PT X (.Compare a [op] [b] pos) (tB t) := by
  intro pins s σ H Q I hw
  refine wpAny_isTrue_Compare1 (zk (h pins s σ H _ I hw) fun v s1 h1 => zk h1 fun u s2 h2 => zk h2 fun c s3 ⟨x, H1, I1, r1, q1⟩ => ?_) h1
  obtain ⟨d, rfl, q⟩ := q1
  cases r1
  exact wpAny_truthy_bool ⟨H1, I1, q⟩
variable {tA tB' : TT} {zL : List Expr}
noncomputable def zeW (t u : TT) : TT := fun σ H Q => t σ H fun c H1 => if c = true then u σ H1 Q else Q false H1
noncomputable def zeX (t u : TT) : TT := fun σ H Q => t σ H fun c H1 => if c = true then Q true H1 else u σ H1 Q
noncomputable def zeY (t : TT) : TT := fun σ H Q => t σ H fun c H1 => Q (!c) H1
theorem zeZ (ha : PT X a tA) : PW X (.BoolOp .And [a] pos) tA := by
  intro wh pins s σ H Q I h
  refine isTrue_and (zk (ha pins s σ H Q I h) fun c s1 e => ?_)
  cases c with
  | true => exact isTrue_and_nil e
  | false => exact e
theorem ze0 (ha : PT X a tA) : PW X (.BoolOp .Or [a] pos) tA := by
  intro wh pins s σ H Q I h
  refine isTrue_or (zk (ha pins s σ H Q I h) fun c s1 e => ?_)
  cases c with
  | false => exact isTrue_or_nil e
  | true => exact e
theorem ze1 (ha : PT X a tA) (hb : PW X (.BoolOp .And (b :: zL) pos) tB') : PW X (.BoolOp .And (a :: b :: zL) pos) (zeW tA tB') := by
  intro wh pins s σ H Q I h
  refine isTrue_and (zk (ha pins s σ H _ I h) fun c s1 ⟨H1, I1, q1⟩ => ?_)
  cases c with
  | true => exact hb wh pins s1 σ H1 Q I1 q1
  | false => exact ⟨H1, I1, q1⟩
theorem ze2 (ha : PT X a tA) (hb : PW X (.BoolOp .Or (b :: zL) pos) tB') : PW X (.BoolOp .Or (a :: b :: zL) pos) (zeX tA tB') := by
  intro wh pins s σ H Q I h
  refine isTrue_or (zk (ha pins s σ H _ I h) fun c s1 ⟨H1, I1, q1⟩ => ?_)
  cases c with
  | true => exact ⟨H1, I1, q1⟩
  | false => exact hb wh pins s1 σ H1 Q I1 q1
theorem ze3 (ha : PT X a tA) : PT X (.UnaryOp .Not a pos) (zeY tA) := by
  intro pins s σ H Q I h
  exact isTrue_not (ha pins s σ H (fun c H1 => Q (!c) H1) I h)
noncomputable def ze4 (ta tb : TE) : TE := fun σ H Q => ta σ H fun x H1 => ∃ c, x = .bl c ∧ if c = true then tb σ H1 Q else Q (.bl false) H1
theorem ze5 {op} {t : TE} (h : PE X a t) : PE X (.BoolOp op [a] pos) t := fun pins s σ H Q I hw => BoolOp_one (h pins s σ H Q I hw)
theorem ze6 (ha : PE X a ta) (hb : PE X (.BoolOp .And (b :: zL) pos) tb) : PE X (.BoolOp .And (a :: b :: zL) pos) (ze4 ta tb) := by
  intro pins s σ H Q I h
  refine BoolOp_and (zk (ha pins s σ H _ I h) fun v s1 ⟨x, H1, I1, r1, q1⟩ => ?_)
  obtain ⟨c, rfl, q1⟩ := q1
  cases r1
  refine wpAny_truthy_bool ?_
  cases c with
  | true => exact hb pins s1 σ H1 Q I1 q1
  | false => exact ⟨.bl false, H1, I1, rfl, q1⟩
end
end L2
namespace L2
open PySem PySem.Spec PyProof.Rows
noncomputable def SqL (K : PySem.W.Frag) (H : Hp) (a : Addr) (xs : List V) : Prop :=
  Rd H a (.lst xs) ∨
    ∃ (o : Obj) (its : Array Value) (n : Nat), K.lookup a = some o ∧ o.cls = .type "list" ∧ o.dict = none ∧ o.data = .seq its n ∧ its.size ≤ sizeLine ∧ Vals xs its.toList
noncomputable def SqT (K : PySem.W.Frag) (H : Hp) (a : Addr) (xs : List V) : Prop :=
  Rd H a (.tup xs) ∨
    ∃ (o : Obj) (its : Array Value) (n : Nat), K.lookup a = some o ∧ o.cls = .type "tuple" ∧ o.data = .seq its n ∧ its.size ≤ sizeLine ∧ Vals xs its.toList
noncomputable def ze7 : Value → Option V
  | .none => some .non
  | .bool b => some (.bl b)
  | .int i _ => some (.int i)
  | .str x _ => some (.str x)
  | .bytes b _ => some (.byt b)
  | .float b _ => some (.flt b)
  | .ref a => some (.ref a)
  | .type n => some (.ty n)
  | _ => none
theorem RelV.abs {x : V} {u : Value} (r : RelV x u) : ze7 u = some x := by
  cases x with
  | non => cases r; rfl
  | bl _ => cases r; rfl
  | int _ => obtain ⟨t, rfl⟩ := r; rfl
  | str _ => obtain ⟨t, rfl⟩ := r; rfl
  | byt _ => obtain ⟨t, rfl⟩ := r; rfl
  | flt _ => obtain ⟨t, rfl⟩ := r; rfl
  | ref _ => cases r; rfl
  | ty _ => cases r; rfl
theorem RelV.inj {x y : V} {u : Value} (r : RelV x u) (q : RelV y u) : x = y := Option.some.inj (r.abs.symm.trans q.abs)
theorem Vals.inj : ∀ {xs ys : List V} {us : List Value}, Vals xs us → Vals ys us → xs = ys
  | _, _, _, .nil, .nil => rfl
  | _, _, _, .cons r t, .cons r' t' => by rw [r.inj r', Vals.inj t t']
section
variable {X : Cx} {pins : List (Addr × Obj)} {σ : St} {H : Hp} {s : Shared} {a : Addr} {xs ys : List V}
theorem SqL.of {K : PySem.W.Frag} (h : H a = some (.lst xs)) : SqL K H a xs := .inl (.inl h)
theorem SqT.of {K : PySem.W.Frag} (h : H a = some (.tup xs)) : SqT K H a xs := .inl (.inl h)
theorem Inv.list (I : Inv X pins σ H s) (h : SqL X.K H a xs) : ∃ its : List Value, Vals xs its ∧ PlainL s.heap a its.toArray ∧ xs.length ≤ sizeLine := by
  rcases h with h | ⟨o, its, n, hk, hc, hd, hs, hz, r⟩
  · obtain ⟨z, its, n, r, e⟩ := h.ok I.hok
    exact ⟨its, r, ⟨_, n, e, rfl, rfl, rfl⟩, z⟩
  · refine ⟨its.toList, r, ⟨o, n, I.kIn a o hk, hc, hd, by simpa using hs⟩, ?_⟩
    have e := r.length
    simp only [Array.length_toList] at e
    omega
theorem Inv.tuple (I : Inv X pins σ H s) (h : SqT X.K H a xs) : ∃ its : List Value, Vals xs its ∧ IsTup s.heap a its.toArray ∧ xs.length ≤ sizeLine := by
  rcases h with h | ⟨o, its, n, hk, hc, hs, hz, r⟩
  · obtain ⟨z, its, r, p⟩ := h.ok I.hok
    exact ⟨its, r, p, z⟩
  · refine ⟨its.toList, r, ⟨o, I.kIn a o hk, hc, n, by simpa using hs⟩, ?_⟩
    have e := r.length
    simp only [Array.length_toList] at e
    omega
theorem Inv.list_inj (I : Inv X pins σ H s) (h : SqL X.K H a xs) (h' : SqL X.K H a ys) : xs = ys := by
  obtain ⟨its, r, ⟨o, n, e, _, _, d⟩, _⟩ := I.list h
  obtain ⟨its', r', ⟨o', n', e', _, _, d'⟩, _⟩ := I.list h'
  rw [e] at e'; cases e'
  rw [d] at d'
  injection d' with d1 _
  have : its = its' := by simpa using congrArg Array.toList d1
  subst this
  exact r.inj r'
theorem Inv.tuple_inj (I : Inv X pins σ H s) (h : SqT X.K H a xs) (h' : SqT X.K H a ys) : xs = ys := by
  obtain ⟨its, r, ⟨o, e, _, n, d⟩, _⟩ := I.tuple h
  obtain ⟨its', r', ⟨o', e', _, n', d'⟩, _⟩ := I.tuple h'
  rw [e] at e'; cases e'
  rw [d] at d'
  injection d' with d1 _
  have : its = its' := by simpa using congrArg Array.toList d1
  subst this
  exact r.inj r'
end
noncomputable abbrev Cx.wish (X : Cx) (E : Value → Shared → Prop) : Cx := { X with xe := E }
noncomputable abbrev Cx.nox (X : Cx) : Cx := X.wish fun _ _ => False
theorem Cx.Ok.wish {X : Cx} (ok : X.Ok) (E : Value → Shared → Prop) : (X.wish E).Ok :=
  ⟨ok.mod, ok.kind, ok.glob, ok.blt, ok.above, ok.inj, ok.has, ok.cab, ok.hd, ok.frames, ok.stk, ok.exf, ok.bs, ok.bsz, ok.noex, ok.exfs, ok.funs, ok.frf⟩
theorem Cx.Ok.unwish {X : Cx} {E : Value → Shared → Prop} (ok : (X.wish E).Ok) : X.Ok :=
  ⟨ok.mod, ok.kind, ok.glob, ok.blt, ok.above, ok.inj, ok.has, ok.cab, ok.hd, ok.frames, ok.stk, ok.exf, ok.bs, ok.bsz, ok.noex, ok.exfs, ok.funs, ok.frf⟩
section
variable {X : Cx} {pins : List (Addr × Obj)} {σ : St} {H : Hp} {s : Shared} {E : Value → Shared → Prop}
theorem Inv.wish (I : Inv X pins σ H s) (E : Value → Shared → Prop) : Inv (X.wish E) pins σ H s := ⟨I.ok.wish E, I.os, I.bare, I.base, I.loc, I.cell, I.free, I.freeC, I.pin, I.hok, I.len⟩
theorem Inv.unwish (I : Inv (X.wish E) pins σ H s) : Inv X pins σ H s := ⟨I.ok.unwish, I.os, I.bare, I.base, I.loc, I.cell, I.free, I.freeC, I.pin, I.hok, I.len⟩
theorem SP.unwish {D : Ends} {f : Flow} {s' : Shared} (h : SP (X.wish E) pins D f s') : SP X pins D f s' := by
  cases f with
  | next => obtain ⟨σ', H', I, q⟩ := h; exact ⟨σ', H', I.unwish, q⟩
  | brk => obtain ⟨σ', H', I, q⟩ := h; exact ⟨σ', H', I.unwish, q⟩
  | cont => obtain ⟨σ', H', I, q⟩ := h; exact ⟨σ', H', I.unwish, q⟩
  | ret u => obtain ⟨v, σ', H', I, r, q⟩ := h; exact ⟨v, σ', H', I.unwish, r, q⟩
theorem PE.nox {e : Expr} {t : TE} (h : PE X.nox e t) : PE X e t := fun pins s σ H Q I hw =>
  wpAny_mono (h pins s σ H Q (I.wish _) hw) (fun _ _ ⟨v, H', I', r, q⟩ => ⟨v, H', I'.unwish, r, q⟩) fun _ _ z => False.elim z
theorem PT.nox {e : Expr} {t : TT} (h : PT X.nox e t) : PT X e t := fun pins s σ H Q I hw =>
  wpAny_mono (h pins s σ H Q (I.wish _) hw) (fun _ _ ⟨H', I', q⟩ => ⟨H', I'.unwish, q⟩) fun _ _ z => False.elim z
theorem PSs.nox {st : List Stmt} {t : TS} (h : PSs X.nox st t) : PSs X st t := fun pins s σ H D I hw =>
  wpAny_mono (h pins s σ H D (I.wish _) hw) (fun _ _ q => q.unwish) fun _ _ z => False.elim z
end
section
variable {X : Cx} {st : Stmt} {zL : List Stmt} {t u : TS} {e : Expr} {te : TE} {pos : Pos}
noncomputable def XC : TS := fun D σ H => D.nx σ H
noncomputable def jI (t u : TS) : TS := fun D σ H => t { D with nx := u D } σ H
theorem XD : PSs X [] XC := fun _ _ σ H _ I h => wpAny_execs_nil ⟨σ, H, I, h⟩
theorem jJ (h1 : PS X st t) (h2 : PSs X zL u) : PSs X (st :: zL) (jI t u) := by
  intro pins s σ H D I h
  refine wpAny_execs_cons (zk (h1 pins s σ H { D with nx := u D } I h) fun f s1 q => ?_)
  cases f with
  | next =>
    obtain ⟨σ', H', I', q⟩ := q
    exact h2 pins s1 σ' H' D I' q
  | ret v => exact q
  | brk => exact q
  | cont => exact q
theorem jb (h1 : PS X st t) : PSs X [st] t := by
  intro pins s σ H D I h
  refine wpAny_execs_cons (zk (h1 pins s σ H D I h) fun f s1 q => ?_)
  cases f with
  | next => exact wpAny_execs_nil q
  | ret v => exact q
  | brk => exact q
  | cont => exact q
theorem Inv.quiet {pins : List (Addr × Obj)} {σ : St} {H : Hp} {s : Shared} (I : Inv X pins σ H s) : interactive X.env = false := by simp [interactive, I.ok.kind]
noncomputable def gq (te : TE) : TS := fun D σ H => te σ H fun _ H1 => D.nx σ H1
theorem JL (he : PE X e te) (hs : swapsWith e none pos.line X.env = pure false := by rfl) : PS X (.Expr e pos) (gq te) := by
  intro pins s σ H D I h
  exact wpAny_Expr_any (zk (he pins s σ H _ I h) fun v s1 ⟨x, H1, I1, r1, q1⟩ => ⟨σ, H1, I1, q1⟩) I.quiet hs
noncomputable def ze8 (te : TE) : TS := fun D σ H => te σ H D.rt
theorem gr (he : PE X e te) : PS X (.Return (some e) pos) (ze8 te) := by
  intro pins s σ H D I h
  exact wpAny_Return_some (zk (he pins s σ H _ I h) fun v s1 ⟨x, H1, I1, r1, q1⟩ => ⟨x, σ, H1, I1, r1, q1⟩)
noncomputable def XE (c : TT) (t u : TS) : TS := fun D σ H => c σ H fun b H1 => if b = true then t D σ H1 else u D σ H1
theorem XF {c : Expr} {a b : List Stmt} {tc : TT} (hc : PT X c tc) (ha : PSs X a t) (hb : PSs X b u) : PS X (.If c a b pos) (XE tc t u) := by
  intro pins s σ H D I h
  refine wpAny_If (zk (hc pins s σ H _ I h) fun d s1 ⟨H1, I1, q1⟩ => ?_)
  cases d with
  | true => exact ha pins s1 σ H1 D I1 q1
  | false => exact hb pins s1 σ H1 D I1 q1
noncomputable def ze9 : TS := fun _ _ _ => False
theorem zfa : PS X st ze9 := fun _ _ _ _ _ _ h => h.elim
end
noncomputable abbrev TG := V → St → Hp → (St → Hp → Prop) → Prop
noncomputable abbrev jc := List V → St → Hp → (St → Hp → Prop) → Prop
noncomputable def PG (X : Cx) (target : Expr) (t : TG) : Prop :=
  ∀ (pins : List (Addr × Obj)) (s : Shared) (σ : St) (H : Hp) (v : V) (u : Value) (Q : St → Hp → Prop), Inv X pins σ H s → RelV v u → t v σ H Q →
    wpAny (model X.prog X.w) X.A (assign target X.env u) (fun _ s' => ∃ σ' H', Inv X pins σ' H' s' ∧ Q σ' H') X.xe s
noncomputable def XG (X : Cx) (ts : List Expr) (t : jc) : Prop :=
  ∀ (pins : List (Addr × Obj)) (s : Shared) (σ : St) (H : Hp) (vs : List V) (us : List Value) (Q : St → Hp → Prop), Inv X pins σ H s → Vals vs us → t vs σ H Q →
    wpAny (model X.prog X.w) X.A (assignInOrder ((assignEach ts X.env).map (·.2)) us) (fun _ s' => ∃ σ' H', Inv X pins σ' H' s' ∧ Q σ' H') X.xe s
section
variable {X : Cx} {pos : Pos}
noncomputable def wB (i : Nat) : TG := fun v σ H Q => Q (σ.set i (some v)) H
theorem vn {i : Nat} {x : Str} (hN : X.N.Nodup) (hi : X.N[i]? = some x) (hx : wA X.env.scope x) (hf : X.fn x = true ∨ X.env.scope.names.lookup x = some .local := by first | exact .inl rfl | exact .inr rfl | assumption) : PG X (.Name x pos) (wB i) := by
  intro pins s σ H v u Q I r h
  exact wpAny_assign_Name (gh I hN hi hx r (fun s' I' => ⟨_, H, I', h⟩) hf)
noncomputable def gs : jc := fun vs σ H Q => vs = [] ∧ Q σ H
noncomputable def JM (t : TG) (u : jc) : jc := fun vs σ H Q => ∃ v r, vs = v :: r ∧ t v σ H fun σ' H' => u r σ' H' Q
theorem zfb : XG X [] gs := by
  intro pins s σ H vs us Q I r h
  obtain ⟨e, h⟩ := h
  subst e
  cases r
  exact assignInOrder_nil ⟨σ, H, I, h⟩
theorem gu {e : Expr} {es : List Expr} {t : TG} {u : jc} (h1 : PG X e t) (h2 : XG X es u)
    (hs : (assignEach (e :: es) X.env).map (·.2) = assign e X.env :: (assignEach es X.env).map (·.2) := by rfl) : XG X (e :: es) (JM t u) := by
  intro pins s σ H vs us Q I r h
  obtain ⟨v, vr, e1, h⟩ := h
  subst e1
  cases r with
  | cons r rr =>
    rw [hs]
    refine assignInOrder_cons (zk (h1 pins s σ H _ _ _ I r h) fun _ s1 ⟨σ1, H1, I1, q1⟩ => ?_)
    exact h2 pins s1 σ1 H1 _ _ Q I1 rr q1
noncomputable def gv (K : PySem.W.Frag) (n : Nat) (t : jc) : TG := fun v σ H Q => ∃ a xs, v = .ref a ∧ SqT K H a xs ∧ xs.length = n ∧ t xs σ H Q
theorem zfc {es : List Expr} {k : Nat} {t : jc} {n : Nat} (hc : X.calm = true) (h : XG X es t)
    (hn : (assignEach es X.env).length = n := by rfl) (hst : (assignEach es X.env).findIdx? (·.1) = none := by rfl) : PG X (.Tuple es k pos) (gv X.K n t) := by
  intro pins s σ H v u Q I r hw
  obtain ⟨a, xs, e1, hq, hl, hw⟩ := hw
  subst e1
  cases r
  obtain ⟨its, rv, ht, hz⟩ := I.tuple hq
  refine assign_Tuple_tuple (I.ok.hd hc) ht (by simp [hn, ← hl, rv.length]) hst fun h' hx => ?_
  have I1 : Inv X pins σ H { s with heap := h' } := I.kept (t' := s.toks) fun b o e => hx b o (Nat.ne_of_lt (Heap.lt_size e)) e
  exact h pins _ σ H xs _ Q I1 (by simpa using rv) hw
noncomputable def JN (te : TE) (g : TG) : TS := fun D σ H => te σ H fun x H1 => g x σ H1 D.nx
theorem JO {i : Nat} {x : Str} {e : Expr} {te : TE} {pos' : Pos} (hN : X.N.Nodup) (hi : X.N[i]? = some x) (hx : wA X.env.scope x) (he : PE X e te) (hs : swapsWith e (some (.Name x pos')) pos.line X.env = pure false := by rfl) (hf : X.fn x = true ∨ X.env.scope.names.lookup x = some .local := by first | exact .inl rfl | exact .inr rfl | assumption) :
    PS X (.Assign [.Name x pos'] e pos) (JN te (wB i)) := by
  intro pins s σ H D I h
  refine wpAny_Assign_Name (zk (he pins s σ H _ I h) fun v s1 ⟨y, H1, I1, r1, q1⟩ => ?_) hs
  exact gh I1 hN hi hx r1 (fun s2 I2 => ⟨_, H1, I2, q1⟩) hf
end
section
variable {X : Cx} {pos : Pos}
noncomputable def zfd (c : TT) (tb : TS) : TS := fun D σ H => ∃ W : Nat → St → Hp → Prop, (∃ m, W m σ H) ∧ ∀ m σ H, W m σ H →
  c σ H fun b H1 => if b = true then ∃ N : St → Hp → Prop, (∀ σ' H', N σ' H' → ∃ m', m' < m ∧ W m' σ' H') ∧ tb { D with nx := N, ct := N, bk := D.nx } σ H1 else D.nx σ H1
theorem zfe {c : Expr} {body : List Stmt} {tc : TT} {tb : TS} (hp : PassesOwn (model X.prog X.w) X.A X.env X.xe) (hc : PT X c tc) (hb : PSs X body tb) : PS X (.While c body [] pos) (zfd tc tb) := by
  intro pins s σ H D I h
  obtain ⟨W, ⟨m0, w0⟩, turn⟩ := h
  refine wpAny_While (codeAny_whileLoop (fun n s' => ∃ σ' H', Inv X pins σ' H' s' ∧ W n σ' H') ?_ m0 ⟨σ, H, I, w0⟩)
  rintro n s1 ⟨σ1, H1, I1, w1⟩
  refine wpAny_passesOwn hp (zk (hc pins s1 σ1 H1 _ I1 (turn n σ1 H1 w1)) fun b s2 ⟨H2, I2, q2⟩ => ?_)
  cases b with
  | true =>
    obtain ⟨N, hN, q2⟩ := q2
    rw [if_pos rfl]
    refine wpAny_passesOwn hp (zk (hb pins s2 σ1 H2 _ I2 q2) fun f s3 q3 => ?_)
    cases f with
    | next =>
      obtain ⟨σ3, H3, I3, n3⟩ := q3
      obtain ⟨m', hm, w3⟩ := hN σ3 H3 n3
      exact ⟨m', hm, σ3, H3, I3, w3⟩
    | cont =>
      obtain ⟨σ3, H3, I3, n3⟩ := q3
      obtain ⟨m', hm, w3⟩ := hN σ3 H3 n3
      exact ⟨m', hm, σ3, H3, I3, w3⟩
    | brk => exact q3
    | ret v => exact q3
  | false =>
    rw [if_neg Bool.false_ne_true]
    exact wpAny_execs_nil ⟨σ1, H2, I2, q2⟩
end
structure It where
  go : Nat → Hp → Prop
  yld : Nat → Hp → V → Hp → Prop
  stop : Nat → Hp → Prop
noncomputable def xa (X : Cx) (pins : List (Addr × Obj)) (H : Hp) (b : Addr) : Prop :=
  H b = none ∧ b ≠ X.env.locals ∧ b ∉ X.fs ∧ (b ∈ X.ex ∨ X.s₀.heap.objs.size ≤ b) ∧ (∀ x c, X.env.cells.lookup x = some c → c ≠ b) ∧ ∀ p ∈ X.pn ++ pins, p.1 ≠ b
theorem Inv.fpOk {X : Cx} {pins : List (Addr × Obj)} {σ : St} {H H' : Hp} {s : Shared} {b : Addr} (I : Inv X pins σ H s) (hb : s.heap.objs.size ≤ b) (hn : H' b = none) : xa X pins H' b := by
  refine ⟨hn, Nat.ne_of_gt (Nat.lt_of_lt_of_le I.lt hb), I.nofs hb, .inr (Nat.le_trans I.sz hb), fun x c e z => ?_, fun p hp z => ?_⟩
  · obtain ⟨v, q⟩ := I.cell x c e
    exact absurd (Nat.lt_of_lt_of_le q.lt (by rw [z]; exact hb)) (Nat.lt_irrefl _)
  · exact absurd (Nat.lt_of_lt_of_le (Heap.lt_size (I.pin p hp).1) (by rw [z]; exact hb)) (Nat.lt_irrefl _)
structure Turn (P : Program) (w : World) (K : PySem.W.Frag) (tg : Expr) (J : It) (fp : List Addr) (it : Addr) (tn : Nat → Heap → Prop) : Prop where
  mem : it ∈ fp
  obj : ∀ i h, tn i h → ∀ b ∈ fp, ∃ o, h.get? b = some o ∧ ∀ v, o.data ≠ .cell v
  keep : ∀ i h h', tn i h → (∀ b ∈ fp, ∀ o, h.get? b = some o → h'.get? b = some o) → tn i h'
  item : ∀ (X : Cx), X.prog = P → X.w = w → X.K = K → X.calm = true → ∀ (i : Nat) (pins : List (Addr × Obj)) (s : Shared) (σ : St) (H : Hp) (E : Value → Shared → Prop), Inv X pins σ H s → (∀ b ∈ fp, xa X pins H b) → tn i s.heap → J.go i H →
    wpAny (model P w) X.A (pyNext (.ref it)) (fun r s1 => ∃ u, r = some u ∧
      wpAny (model P w) X.A (letOwnedTupleGo tg (.ref it) u) (fun _ s2 => ∃ x H', Inv X pins σ H' s2 ∧ RelV x u ∧ J.yld i H x H' ∧ tn (i + 1) s2.heap ∧ ∀ b ∈ fp, H' b = none) E s1) E s
  done : ∀ (X : Cx), X.prog = P → X.w = w → X.K = K → X.calm = true → ∀ (i : Nat) (pins : List (Addr × Obj)) (s : Shared) (σ : St) (H : Hp) (E : Value → Shared → Prop), Inv X pins σ H s → (∀ b ∈ fp, xa X pins H b) → tn i s.heap → J.stop i H →
    wpAny (model P w) X.A (pyNext (.ref it)) (fun r s1 => r = none ∧ Inv X pins σ H s1) E s
  self : ∀ (A : Around) (i : Nat) (s : Shared) (Q : Value → Shared → Prop) (E : Value → Shared → Prop), tn i s.heap → Q (.ref it) s → wpAny (model P w) A (pyIter (.ref it)) Q E s
noncomputable abbrev TI := St → Hp → (It → Hp → Prop) → Prop
noncomputable def gw (X : Cx) (pins : List (Addr × Obj)) (σ : St) (tg : Expr) (R : It → Hp → Prop) (itv : Value) (s2 : Shared) : Prop :=
  ∃ (it : Addr) (fp : List Addr) (tn : Nat → Heap → Prop) (J : It) (H' : Hp), itv = .ref it ∧ Inv X pins σ H' s2 ∧ Turn X.prog X.w X.K tg J fp it tn ∧ tn 0 s2.heap ∧ (∀ b ∈ fp, xa X pins H' b) ∧ R J H'
noncomputable def PI (X : Cx) (tg iter : Expr) (wi : TI) : Prop :=
  ∀ (pins : List (Addr × Obj)) (s : Shared) (σ : St) (H : Hp) (R : It → Hp → Prop), Inv X pins σ H s → wi σ H R →
    wpAny (model X.prog X.w) X.A (eval iter X.env) (fun v s1 => wpAny (model X.prog X.w) X.A (pyIter v) (gw X pins σ tg R) X.xe s1) X.xe s
theorem ZK {M : Model} {A : Around} {E : Value → Shared → Prop} {s : Shared} {tg : Expr} {it : Addr} {u : Value} {o : Obj} {n : String} {vs : Array Value} {Q : Unit → Shared → Prop} (ho : s.heap.get? it = some o) (hc : o.cls = .type n) (hd : o.data = .fields vs)
    (hn : ["enumerate", "zip", "dict_itemiterator", "dict_reverseitemiterator", "odict_iterator", "itertools.zip_longest", "itertools.pairwise"].contains n = false) (hQ : Q () s) : wpAny M A (letOwnedTupleGo tg (.ref it) u) Q E s := by
  unfold letOwnedTupleGo
  cases tg <;> first
    | exact wpAny_pure hQ
    | (cases u <;> first
        | exact wpAny_pure hQ
        | (refine wpAny_bind (wpAny_load ho ?_)
           rw [hc, hd]
           show wpAny M A (if (["enumerate", "zip", "dict_itemiterator", "dict_reverseitemiterator", "odict_iterator", "itertools.zip_longest", "itertools.pairwise"].contains n && vs[0]? == some (rawInt _)) = true then _ else _) Q E s
           rw [if_neg (by intro h; rw [hn, Bool.false_and] at h; cases h)]
           exact wpAny_pure hQ))
noncomputable def vo (K : PySem.W.Frag) (a : Addr) : It :=
  ⟨fun i H => ∃ xs x, SqL K H a xs ∧ xs[i]? = some x, fun i H x H' => H' = H ∧ ∀ xs, SqL K H a xs → xs[i]? = some x, fun i H => ∃ xs, SqL K H a xs ∧ xs.length ≤ i⟩
noncomputable def ZL (K : PySem.W.Frag) (a : Addr) : It :=
  ⟨fun i H => ∃ xs x, SqT K H a xs ∧ xs[i]? = some x, fun i H x H' => H' = H ∧ ∀ xs, SqT K H a xs → xs[i]? = some x, fun i H => ∃ xs, SqT K H a xs ∧ xs.length ≤ i⟩
noncomputable def wO (lo : Int) (n : Nat) : It := ⟨fun i _ => i < n, fun i H x H' => H' = H ∧ x = .int (lo + i), fun i _ => n ≤ i⟩
theorem gx {P : Program} {w : World} {K : PySem.W.Frag} {tg : Expr} (a it : Addr) : Turn P w K tg (vo K a) [it] it (fun i h => h.IsListIter it a i) where
  mem := by simp
  obj := fun i h st b hb => by
    have e : b = it := by simpa using hb
    subst e
    obtain ⟨o, e, c, d⟩ := st
    exact ⟨o, e, fun v z => by rw [d] at z; cases z⟩
  keep := fun i h h' st k => st.at fun o e => k it (by simp) o e
  item := by
    intro X hP hw hK hc i pins s σ H E I hf st hg
    subst hP hw hK
    obtain ⟨xs, x, hq, hx⟩ := hg
    obtain ⟨its, rv, p, hz⟩ := I.list hq
    obtain ⟨u, hu, ru⟩ := rv.get hx
    obtain ⟨f0, f1, f2, f3, f4, f5⟩ := hf it (by simp)
    refine wpAny_pyNext_list_item st p.isList (x := u) (by simpa using hu) fun h' st' sb => ?_
    have I1 : Inv X pins σ H { s with heap := h' } := I.turned (t' := s.toks) (fun b o hb e => (sb.2 b hb).trans e) f0 f1 f3 f4 f5
    obtain ⟨o, e, c, d⟩ := id st'
    exact ⟨u, rfl, ZK (s := { s with heap := h' }) e c d (by decide) ⟨x, H, I1, ru, ⟨rfl, fun ys hy => by rw [I.list_inj hy hq]; exact hx⟩, st', fun b hb => (hf b hb).1⟩⟩
  done := by
    intro X hP hw hK hc i pins s σ H E I hf st hg
    subst hP hw hK
    obtain ⟨xs, hq, hx⟩ := hg
    obtain ⟨its, rv, p, hz⟩ := I.list hq
    obtain ⟨f0, f1, f2, f3, f4, f5⟩ := hf it (by simp)
    have hl := rv.length
    exact wpAny_pyNext_list_end (I.ok.hd hc) st p.isList (by simp; omega) fun h' eb => ⟨rfl, I.turned (t' := s.toks) (fun b o hb e => eb b o hb e) f0 f1 f3 f4 f5⟩
  self := fun _ _ _ _ _ st h => wpAny_pyIter_listiter st h
theorem zff {P : Program} {w : World} {K : PySem.W.Frag} {tg : Expr} (a it : Addr) : Turn P w K tg (ZL K a) [it] it (fun i h => h.IsTupleIter it a i) where
  mem := by simp
  obj := fun i h st b hb => by
    have e : b = it := by simpa using hb
    subst e
    obtain ⟨o, e, c, d⟩ := st
    exact ⟨o, e, fun v z => by rw [d] at z; cases z⟩
  keep := fun i h h' st k => st.at fun o e => k it (by simp) o e
  item := by
    intro X hP hw hK hc i pins s σ H E I hf st hg
    subst hP hw hK
    obtain ⟨xs, x, hq, hx⟩ := hg
    obtain ⟨its, rv, p, hz⟩ := I.tuple hq
    obtain ⟨u, hu, ru⟩ := rv.get hx
    obtain ⟨f0, f1, f2, f3, f4, f5⟩ := hf it (by simp)
    refine wpAny_pyNext_tuple_item st (show s.heap.IsTuple a its.toArray from p) (x := u) (by simpa using hu) fun h' st' sb => ?_
    have I1 : Inv X pins σ H { s with heap := h' } := I.turned (t' := s.toks) (fun b o hb e => (sb.2 b hb).trans e) f0 f1 f3 f4 f5
    obtain ⟨o, e, c, d⟩ := id st'
    exact ⟨u, rfl, ZK (s := { s with heap := h' }) e c d (by decide) ⟨x, H, I1, ru, ⟨rfl, fun ys hy => by rw [I.tuple_inj hy hq]; exact hx⟩, st', fun b hb => (hf b hb).1⟩⟩
  done := by
    intro X hP hw hK hc i pins s σ H E I hf st hg
    subst hP hw hK
    obtain ⟨xs, hq, hx⟩ := hg
    obtain ⟨its, rv, p, hz⟩ := I.tuple hq
    obtain ⟨f0, f1, f2, f3, f4, f5⟩ := hf it (by simp)
    have hl := rv.length
    exact wpAny_pyNext_tuple_end (I.ok.hd hc) st (show s.heap.IsTuple a its.toArray from p) (by simp; omega) fun h' eb => ⟨rfl, I.turned (t' := s.toks) (fun b o hb e => eb b o hb e) f0 f1 f3 f4 f5⟩
  self := fun _ _ _ _ _ st h => wpAny_pyIter_tupleiter st h
theorem zfg {P : Program} {w : World} {K : PySem.W.Frag} {tg : Expr} (it : Addr) (lo : Int) (n : Nat) : Turn P w K tg (wO lo n) [it] it (fun i h => IsRangeIter h it (lo + (i : Nat) * 1) ((n : Int) - (i : Nat)) 1) where
  mem := by simp
  obj := fun i h st b hb => by
    have e : b = it := by simpa using hb
    subst e
    exact ⟨_, st, fun v z => by
      have z' : Data.fields _ = Data.cell v := z
      cases z'⟩
  keep := fun i h h' st k => k it (by simp) _ st
  item := by
    intro X hP hw hK hc i pins s σ H E I hf st hg
    subst hP hw hK
    obtain ⟨f0, f1, f2, f3, f4, f5⟩ := hf it (by simp)
    have W := Walks.range (prog := X.prog) (w := X.w) (I.ok.hd hc) it lo 1 n
    refine W.item i s _ _ hg st fun v h' tk hv st' kk => ?_
    obtain ⟨t, rfl⟩ := hv
    have I1 : Inv X pins σ H { s with heap := h', toks := tk } := I.turned (fun b o hb e => kk b o (by simpa using hb) e) f0 f1 f3 f4 f5
    refine ⟨_, rfl, ZK (s := { s with heap := h', toks := tk }) (n := "range_iterator") st' rfl rfl (by decide) ⟨.int (lo + i), H, I1, ⟨t, ?_⟩, ⟨rfl, rfl⟩, st', fun b hb => (hf b hb).1⟩⟩
    rw [Int.mul_one]
  done := by
    intro X hP hw hK hc i pins s σ H E I hf st hg
    subst hP hw hK
    obtain ⟨f0, f1, f2, f3, f4, f5⟩ := hf it (by simp)
    exact wpAny_pyNext_range_end (I.ok.hd hc) st (by have : n ≤ i := hg; omega) fun h' eb => ⟨rfl, I.turned (t' := s.toks) (fun b o hb e => eb b o hb e) f0 f1 f3 f4 f5⟩
  self := fun _ _ _ _ _ st h => wpAny_pyIter_rangeiter st h
end L2
namespace L2
open PySem PySem.Spec PyProof.Rows
section
variable {X : Cx} {tg : Expr}
noncomputable def XH (K : PySem.W.Frag) (tl : TE) : TI := fun σ H R => tl σ H fun x H1 => ∃ a, x = .ref a ∧ (∃ xs, SqL K H1 a xs) ∧ R (vo K a) H1
theorem JP {l : Expr} {tl : TE} (hl : PE X l tl) : PI X tg l (XH X.K tl) := by
  intro pins s σ H R I h
  refine zk (hl pins s σ H _ I h) fun v s1 ⟨x, H1, I1, r1, q1⟩ => ?_
  obtain ⟨a, e, ⟨xs, hq⟩, q⟩ := q1
  subst e
  cases r1
  obtain ⟨its, rv, p, hz⟩ := I1.list hq
  refine wpAny_pyIter_list p.isList ?_
  refine ⟨s1.heap.objs.size, [s1.heap.objs.size], _, _, H1, rfl, I1.kept (t' := s1.toks) fun b o e => Heap.get?_push_of_some _ e, gx a _, ⟨_, Heap.get?_push_size _ rfl, rfl, rfl⟩, fun b hb => ?_, q⟩
  have e : b = s1.heap.objs.size := by simpa using hb
  subst e
  exact I1.fpOk (Nat.le_refl _) (I1.hok.fresh (Nat.le_refl _))
theorem gy {pins : List (Addr × Obj)} {σ : St} {H : Hp} {s : Shared} {R : It → Hp → Prop} {E : Value → Shared → Prop} {lo hi : Int} {t u v : Tok} {tk : Nat} (I : Inv X pins σ H s) (h1 : -(2 ^ 62) ≤ lo) (h2 : lo < 2 ^ 62) (h3 : -(2 ^ 62) ≤ hi) (h4 : hi < 2 ^ 62)
    (q : R (wO lo (hi - lo).toNat) H) : wpAny (model X.prog X.w) X.A (pyIter (.ref s.heap.objs.size)) (gw X pins σ tg R) E { s with heap := s.heap.push { cls := .type "range", data := .fields #[.int lo t, .int hi u, .int 1 v] }, toks := tk } := by
  refine wpAny_pyIter_range (IsRange.new ..) (small_one h1 h2 h3 h4) ?_
  have I1 : Inv X pins σ H { s with heap := s.heap.push { cls := .type "range", data := .fields #[.int lo t, .int hi u, .int 1 v] }, toks := tk } := I.kept fun b o e => Heap.get?_push_of_some _ e
  refine ⟨(s.heap.push { cls := .type "range", data := .fields #[.int lo t, .int hi u, .int 1 v] }).objs.size, [(s.heap.push { cls := .type "range", data := .fields #[.int lo t, .int hi u, .int 1 v] }).objs.size], _, _, H, rfl,
    I1.kept (t' := tk) fun b o e => Heap.get?_push_of_some _ e, zfg _ lo (hi - lo).toNat, ?_, fun b hb => ?_, q⟩
  · have e1 : lo + ((0 : Nat) : Int) * 1 = lo := by simp
    have e2 : (((hi - lo).toNat : Nat) : Int) - ((0 : Nat) : Int) = Builtin.Range.rangeSize lo hi 1 := by rw [rangeSize_one]; split <;> omega
    show IsRangeIter _ _ (lo + ((0 : Nat) : Int) * 1) ((((hi - lo).toNat : Nat) : Int) - ((0 : Nat) : Int)) 1
    rw [e1, e2]
    exact Heap.get?_push_size _ rfl
  · have e : b = (s.heap.push { cls := .type "range", data := .fields #[.int lo t, .int hi u, .int 1 v] }).objs.size := by simpa using hb
    subst e
    exact I1.fpOk (Nat.le_refl _) (I1.hok.fresh (Nat.le_refl _))
noncomputable def zfh (ta : TA) : TI := fun σ H R => ta σ H fun vs H1 => ∃ j : Int, vs = [.int j] ∧ -(2 ^ 62) ≤ j ∧ j < 2 ^ 62 ∧ R (wO 0 j.toNat) H1
noncomputable def gz (ta : TA) : TI := fun σ H R => ta σ H fun vs H1 => ∃ i j : Int, vs = [.int i, .int j] ∧ (-(2 ^ 62) ≤ i ∧ i < 2 ^ 62 ∧ -(2 ^ 62) ≤ j ∧ j < 2 ^ 62) ∧ R (wO i (j - i).toNat) H1
theorem zfi {a : Expr} {ta : TA} {p pos : Pos} (hg : Gl X "range") (hm : X.mg "range" = none) (ha : PA X [a] ta) (hs : starEach [a] X.env = [(false, eval a X.env)] := by rfl) : PI X tg (.Call (.Name "range" p) [a] [] pos) (zfh ta) := by
  intro pins s σ H R I h
  refine Call_ (ja I hg hm boot_range (PyProof.Rows.callWith_type1 (zk (ha pos pins s σ H _ I h) fun us s1 ⟨vs, H1, I1, r1, q1⟩ => ?_) hs rfl))
  obtain ⟨j, e, q1, q2, q⟩ := q1
  subst e
  cases r1 with
  | cons r rr =>
    cases rr
    obtain ⟨t, rfl⟩ := r
    exact call_range_1 (gy I1 (by omega) (by omega) q1 q2 (by simpa using q))
theorem gA {a b : Expr} {ta : TA} {p pos : Pos} (hg : Gl X "range") (hm : X.mg "range" = none) (ha : PA X [a, b] ta) (hs : starEach [a, b] X.env = [(false, eval a X.env), (false, eval b X.env)] := by rfl) (hs2 : starEach [b] X.env = [(false, eval b X.env)] := by rfl) :
    PI X tg (.Call (.Name "range" p) [a, b] [] pos) (gz ta) := by
  intro pins s σ H R I h
  refine Call_ (ja I hg hm boot_range (PyProof.Rows.callWith_type1 (zk (ha pos pins s σ H _ I h) fun us s1 ⟨vs, H1, I1, r1, q1⟩ => ?_) (by rw [hs, hs2]) (by rw [hs2]; rfl)))
  obtain ⟨i, j, e, ⟨q1, q2, q3, q4⟩, q⟩ := q1
  subst e
  cases r1 with
  | cons r rr =>
    cases rr with
    | cons r' rr =>
      cases rr
      obtain ⟨t, rfl⟩ := r
      obtain ⟨t', rfl⟩ := r'
      exact call_range_2 (gy I1 q1 q2 q3 q4 q)
noncomputable def ZM (wi : TI) (g : TG) (tb : TS) : TS := fun D σ H => wi σ H fun J H1 => ∃ W : Nat → Nat → St → Hp → Prop, (∃ m, W 0 m σ H1) ∧ ∀ i m σ H, W i m σ H →
  (J.stop i H ∧ D.nx σ H) ∨ (J.go i H ∧ ∃ N : St → Hp → Prop, (∀ σ' H', N σ' H' → ∃ m', m' < m ∧ W (i + 1) m' σ' H') ∧ ∀ x H', J.yld i H x H' → g x σ H' fun σ2 H2 => tb { D with nx := N, ct := N, bk := D.nx } σ2 H2)
noncomputable def jK (fp : List Addr) (h : Heap) : List (Addr × Obj) := fp.filterMap fun b => (h.get? b).map fun o => (b, o)
theorem jL {fp : List Addr} {h : Heap} {b : Addr} {o : Obj} (hb : b ∈ fp) (e : h.get? b = some o) : (b, o) ∈ jK fp h := List.mem_filterMap.mpr ⟨b, hb, by rw [e]; rfl⟩
theorem zfj {fp : List Addr} {h : Heap} {p : Addr × Obj} (hp : p ∈ jK fp h) : p.1 ∈ fp ∧ h.get? p.1 = some p.2 := by
  obtain ⟨b, hb, e⟩ := List.mem_filterMap.mp hp
  cases q : h.get? b with
  | none => rw [q] at e; cases e
  | some o =>
    rw [q] at e
    have e' : (b, o) = p := Option.some.inj e
    subst e'
    exact ⟨hb, q⟩
theorem Inv.pinned {pins : List (Addr × Obj)} {σ : St} {H : Hp} {s : Shared} {fp : List Addr} (I : Inv X pins σ H s) (hf : ∀ b ∈ fp, xa X pins H b) (ho : ∀ b ∈ fp, ∃ o, s.heap.get? b = some o ∧ ∀ v, o.data ≠ .cell v) : Inv X (pins ++ jK fp s.heap) σ H s :=
  I.pins_of fun p hp => (List.mem_append.mp hp).elim (fun z => I.pin p (List.mem_append_right _ z)) fun z => by
    obtain ⟨hb, e⟩ := zfj z
    obtain ⟨f0, f1, f2, _⟩ := hf p.1 hb
    obtain ⟨o, e', d⟩ := ho p.1 hb
    rw [e] at e'; cases e'
    exact ⟨e, f0, f1, f2, d⟩
theorem Inv.unpinned {pins pl : List (Addr × Obj)} {σ : St} {H : Hp} {s : Shared} (I : Inv X (pins ++ pl) σ H s) : Inv X pins σ H s := I.pins_of fun p hp => I.pin p (List.mem_append_right _ (List.mem_append_left _ hp))
theorem jM {iter : Expr} {body : List Stmt} {wi : TI} {g : TG} {tb : TS} {pos : Pos} (hp : PassesOwn (model X.prog X.w) X.A X.env X.xe) (hc : X.calm = true) (hi : PI X tg iter wi) (hg : PG X tg g) (hb : PSs X body tb)
    (hs : ∀ x, foldedSetIterable iter X.env x = pure x := by intro _; rfl) : PS X (.For tg iter body [] pos) (ZM wi g tb) := by
  intro pins s σ H D I h
  refine wpAny_For (zk (hi pins s σ H _ I h) fun v s1 h1 => zk h1 fun itv s2 h2 => ?_) hs
  obtain ⟨it, fp, tn, J, H2, e, I2, T, st2, f2, W, ⟨m0, w0⟩, turn⟩ := h2
  subst e
  have stat : ∀ {H' : Hp}, (∀ b ∈ fp, H' b = none) → ∀ b ∈ fp, xa X pins H' b := fun hn b hb => ⟨hn b hb, (f2 b hb).2⟩
  refine codeAny_forLoop_any (fun n s' => ∃ i σ' H', Inv X pins σ' H' s' ∧ tn i s'.heap ∧ (∀ b ∈ fp, H' b = none) ∧ W i n σ' H') ?_ m0 ⟨0, σ, H2, I2, st2, fun b hb => (f2 b hb).1, w0⟩
  rintro n s3 ⟨i, σ3, H3, I3, st3, fr3, w3⟩
  rcases turn i n σ3 H3 w3 with ⟨stop, qn⟩ | ⟨go, N, hN, step⟩
  · refine wpAny_passesOwn hp (zk (T.done X rfl rfl rfl hc i pins s3 σ3 H3 X.xe I3 (stat fr3) st3 stop) fun r s4 ⟨hr, I4⟩ => ?_)
    subst hr
    exact wpAny_execs_nil ⟨σ3, H3, I4, qn⟩
  · refine wpAny_passesOwn hp (zk (T.item X rfl rfl rfl hc i pins s3 σ3 H3 X.xe I3 (stat fr3) st3 go) fun r s4 ⟨u, hr, h4⟩ => ?_)
    subst hr
    refine wpAny_passesOwn hp (zk h4 fun _ s5 ⟨x, H5, I5, r5, y5, st5, fr5⟩ => ?_)
    have I5' := I5.pinned (stat fr5) (T.obj _ _ st5)
    refine wpAny_passesOwn hp (zk (hg _ s5 σ3 H5 x u _ I5' r5 (step x H5 y5)) fun _ s6 ⟨σ6, H6, I6, q6⟩ => ?_)
    refine wpAny_passesOwn hp (zk (hb _ s6 σ6 H6 _ I6 q6) fun f s7 q7 => ?_)
    have again : ∀ {σ7 : St} {H7 : Hp}, Inv X (pins ++ jK fp s5.heap) σ7 H7 s7 → N σ7 H7 → ∃ m, m < n ∧ ∃ i σ' H', Inv X pins σ' H' s7 ∧ tn i s7.heap ∧ (∀ b ∈ fp, H' b = none) ∧ W i m σ' H' := fun {σ7 H7} I7 n7 => by
      obtain ⟨m', hm, w7⟩ := hN σ7 H7 n7
      refine ⟨m', hm, i + 1, σ7, H7, I7.unpinned, T.keep _ _ _ st5 fun b hb o e => (I7.pin (b, o) (List.mem_append_right _ (List.mem_append_right _ (jL hb e)))).1, fun b hb => ?_, w7⟩
      obtain ⟨o, e, d⟩ := T.obj _ _ st5 b hb
      exact (I7.pin (b, o) (List.mem_append_right _ (List.mem_append_right _ (jL hb e)))).2.1
    cases f with
    | next => obtain ⟨σ7, H7, I7, n7⟩ := q7; exact again I7 n7
    | cont => obtain ⟨σ7, H7, I7, n7⟩ := q7; exact again I7 n7
    | brk => obtain ⟨σ7, H7, I7, q7⟩ := q7; exact ⟨σ7, H7, I7.unpinned, q7⟩
    | ret v => obtain ⟨x7, σ7, H7, I7, r7, q7⟩ := q7; exact ⟨x7, σ7, H7, I7.unpinned, r7, q7⟩
end
theorem XI {K : PySem.W.Frag} {a : Addr} {xs : List V} {g : TG} {tb : TS} {D : Ends} {σ : St} {H : Hp} (Pv : Nat → St → Hp → Prop) (h0 : Pv 0 σ H) (hl : ∀ i σ H, i ≤ xs.length → Pv i σ H → SqL K H a xs)
    (hs : ∀ i x σ H, xs[i]? = some x → Pv i σ H → g x σ H fun σ2 H2 => tb { D with nx := Pv (i + 1), ct := Pv (i + 1), bk := D.nx } σ2 H2) (hd : ∀ σ H, Pv xs.length σ H → D.nx σ H) :
    ∃ W : Nat → Nat → St → Hp → Prop, (∃ m, W 0 m σ H) ∧ ∀ i m σ H, W i m σ H →
      ((vo K a).stop i H ∧ D.nx σ H) ∨ ((vo K a).go i H ∧ ∃ N : St → Hp → Prop, (∀ σ' H', N σ' H' → ∃ m', m' < m ∧ W (i + 1) m' σ' H') ∧ ∀ x H', (vo K a).yld i H x H' → g x σ H' fun σ2 H2 => tb { D with nx := N, ct := N, bk := D.nx } σ2 H2) := by
  refine ⟨fun i m σ H => m = xs.length - i ∧ i ≤ xs.length ∧ Pv i σ H, ⟨xs.length, by simp, Nat.zero_le _, h0⟩, ?_⟩
  rintro i m σ H ⟨rfl, hi, p⟩
  have q := hl i σ H hi p
  by_cases hlt : i < xs.length
  · refine .inr ⟨⟨xs, xs[i], q, by simp [hlt]⟩, Pv (i + 1), fun σ' H' p' => ⟨xs.length - (i + 1), by omega, rfl, hlt, p'⟩, fun x H' y => ?_⟩
    obtain ⟨e, y⟩ := y
    subst e
    exact hs i x σ _ (y xs q) p
  · have e : i = xs.length := by omega
    subst e
    exact .inl ⟨⟨xs, q, Nat.le_refl _⟩, hd σ H p⟩
theorem zfk {lo : Int} {n : Nat} {g : TG} {tb : TS} {D : Ends} {σ : St} {H : Hp} (Pv : Nat → St → Hp → Prop) (h0 : Pv 0 σ H)
    (hs : ∀ i σ H, i < n → Pv i σ H → g (.int (lo + i)) σ H fun σ2 H2 => tb { D with nx := Pv (i + 1), ct := Pv (i + 1), bk := D.nx } σ2 H2) (hd : ∀ σ H, Pv n σ H → D.nx σ H) :
    ∃ W : Nat → Nat → St → Hp → Prop, (∃ m, W 0 m σ H) ∧ ∀ i m σ H, W i m σ H →
      ((wO lo n).stop i H ∧ D.nx σ H) ∨ ((wO lo n).go i H ∧ ∃ N : St → Hp → Prop, (∀ σ' H', N σ' H' → ∃ m', m' < m ∧ W (i + 1) m' σ' H') ∧ ∀ x H', (wO lo n).yld i H x H' → g x σ H' fun σ2 H2 => tb { D with nx := N, ct := N, bk := D.nx } σ2 H2) := by
  refine ⟨fun i m σ H => m = n - i ∧ i ≤ n ∧ Pv i σ H, ⟨n, by simp, Nat.zero_le _, h0⟩, ?_⟩
  rintro i m σ H ⟨rfl, hi, p⟩
  by_cases hlt : i < n
  · refine .inr ⟨hlt, Pv (i + 1), fun σ' H' p' => ⟨n - (i + 1), by omega, rfl, hlt, p'⟩, fun x H' y => ?_⟩
    obtain ⟨e, y⟩ := y
    subst e y
    exact hs i σ _ hlt p
  · have e : i = n := by omega
    subst e
    exact .inl ⟨Nat.le_refl _, hd σ H p⟩
end L2
namespace L2
open PySem PySem.Spec PyProof.Rows
noncomputable abbrev R2 := V → V → Hp → VK → Prop
noncomputable def OpR (X : Cx) (f : Value → Value → Sem Value) (r : R2) : Prop :=
  ∀ (pins : List (Addr × Obj)) (s : Shared) (σ : St) (H : Hp) (x y : V) (v u : Value) (Q : VK), Inv X pins σ H s → RelV x v → RelV y u → r x y H Q →
    wpAny (model X.prog X.w) X.A (f v u) (EP X pins σ Q) X.xe s
noncomputable def ZN (X : Cx) (f : Value → Sem Value) (r : V → Hp → VK → Prop) : Prop :=
  ∀ (pins : List (Addr × Obj)) (s : Shared) (σ : St) (H : Hp) (x : V) (v : Value) (Q : VK), Inv X pins σ H s → RelV x v → r x H Q →
    wpAny (model X.prog X.w) X.A (f v) (EP X pins σ Q) X.xe s
noncomputable def CallR (X : Cx) (f : Value) (r : List V → Hp → VK → Prop) : Prop :=
  ∀ (pins : List (Addr × Obj)) (s : Shared) (σ : St) (H : Hp) (xs : List V) (us : List Value) (Q : VK), Inv X pins σ H s → Vals xs us → r xs H Q →
    wpAny (model X.prog X.w) X.A (call f us) (EP X pins σ Q) X.xe s
noncomputable def zfl (X : Cx) (r : V → Hp → (Bool → Hp → Prop) → Prop) : Prop :=
  ∀ (pins : List (Addr × Obj)) (s : Shared) (σ : St) (H : Hp) (x : V) (v : Value) (Q : Bool → Hp → Prop), Inv X pins σ H s → RelV x v → r x H Q →
    wpAny (model X.prog X.w) X.A (truthy v) (TP X pins σ Q) X.xe s
noncomputable def jd (r : R2) (ta tb : TE) : TE := fun σ H Q => ta σ H fun x H1 => tb σ H1 fun y H2 => r x y H2 Q
noncomputable def zfm (r : V → Hp → VK → Prop) (ta : TE) : TE := fun σ H Q => ta σ H fun x H1 => r x H1 Q
noncomputable def rI (C : Int → Int → Prop) (g : Int → Int → V) : R2 := fun x y H Q => ∃ i j, x = .int i ∧ y = .int j ∧ C i j ∧ Q (g i j) H
noncomputable def wP (g : Int → Int → V) : R2 := fun x y H Q => ∃ i j, x = .int i ∧ y = .int j ∧ Q (g i j) H
noncomputable def rU (g : Int → V) : V → Hp → VK → Prop := fun x H Q => ∃ i, x = .int i ∧ Q (g i) H
section
variable {X : Cx} {a b c : Expr} {ta tb tc : TE} {pos : Pos}
theorem JQ (ha : PE X a ta) (hb : PE X b tb) {pins : List (Addr × Obj)} {s : Shared} {σ : St} {H : Hp} {R : V → V → Hp → Prop} (I : Inv X pins σ H s)
    (h : ta σ H fun x H1 => tb σ H1 fun y H2 => R x y H2) {Q : Value → Shared → Prop} {f : Value → Value → Sem Value}
    (hf : ∀ v u s2 x y H2, Inv X pins σ H2 s2 → RelV x v → RelV y u → R x y H2 → wpAny (model X.prog X.w) X.A (f v u) Q X.xe s2) :
    wpAny (model X.prog X.w) X.A (eval a X.env) (fun v s₁ => wpAny (model X.prog X.w) X.A (eval b X.env) (fun u s₂ => wpAny (model X.prog X.w) X.A (f v u) Q X.xe s₂) X.xe s₁) X.xe s := by
  refine zk (ha pins s σ H _ I h) fun v s1 ⟨x, H1, I1, r1, q1⟩ => ?_
  refine zk (hb pins s1 σ H1 _ I1 q1) fun u s2 ⟨y, H2, I2, r2, q2⟩ => ?_
  exact hf v u s2 x y H2 I2 r1 r2 q2
theorem zfn {op : Operator} {r : R2} (ho : OpR X (binaryOp op) r) (ha : PE X a ta) (hb : PE X b tb) : PE X (.BinOp a op b pos) (jd r ta tb) := by
  intro pins s σ H Q I h
  exact wpAny_BinOp (JQ ha hb I h fun v u s2 x y H2 I2 rx ry q => ho pins s2 σ H2 x y v u Q I2 rx ry q)
theorem zfo {op : UnaryOp} {r : V → Hp → VK → Prop} (ho : ZN X (unaryOp op) r) (ha : PE X a ta) : PE X (.UnaryOp op a pos) (zfm r ta) := by
  intro pins s σ H Q I h
  exact UnaryOp_ (zk (ha pins s σ H _ I h) fun v s1 ⟨x, H1, I1, r1, q1⟩ => ho pins s1 σ H1 x v Q I1 r1 q1)
theorem XJ {f : Value → Value → Sem Value} {C : Int → Int → Prop} {g : Int → Int → Int}
    (rule : ∀ (i j : Int) (t u : Tok) (s : Shared) (Q : Value → Shared → Prop) (E : Value → Shared → Prop), C i j → Q (.int (g i j) s.toks) { s with toks := s.toks + 1 } → wpAny (model X.prog X.w) X.A (f (.int i t) (.int j u)) Q E s) :
    OpR X f (rI C fun i j => .int (g i j)) := by
  intro pins s σ H x y v u Q I rx ry h
  obtain ⟨i, j, rfl, rfl, hc, q⟩ := h
  obtain ⟨t, rfl⟩ := rx
  obtain ⟨t', rfl⟩ := ry
  exact rule i j t t' s _ _ hc ⟨.int (g i j), H, I.tok _, ⟨_, rfl⟩, q⟩
theorem ZO {f : Value → Value → Sem Value} {g : Int → Int → Int}
    (rule : ∀ (i j : Int) (t u : Tok) (s : Shared) (Q : Value → Shared → Prop) (E : Value → Shared → Prop), Q (.int (g i j) s.toks) { s with toks := s.toks + 1 } → wpAny (model X.prog X.w) X.A (f (.int i t) (.int j u)) Q E s) :
    OpR X f (wP fun i j => .int (g i j)) := by
  intro pins s σ H x y v u Q I rx ry h
  obtain ⟨i, j, rfl, rfl, q⟩ := h
  obtain ⟨t, rfl⟩ := rx
  obtain ⟨t', rfl⟩ := ry
  exact rule i j t t' s _ _ ⟨.int (g i j), H, I.tok _, ⟨_, rfl⟩, q⟩
theorem JR {f : Value → Value → Sem Value} {g : Int → Int → Bool}
    (rule : ∀ (i j : Int) (t u : Tok) (s : Shared) (Q : Value → Shared → Prop) (E : Value → Shared → Prop), Q (.bool (g i j)) s → wpAny (model X.prog X.w) X.A (f (.int i t) (.int j u)) Q E s) :
    OpR X f (wP fun i j => .bl (g i j)) := by
  intro pins s σ H x y v u Q I rx ry h
  obtain ⟨i, j, rfl, rfl, q⟩ := h
  obtain ⟨t, rfl⟩ := rx
  obtain ⟨t', rfl⟩ := ry
  exact rule i j t t' s _ _ ⟨.bl (g i j), H, I, rfl, q⟩
noncomputable def zfp (i j : Int) : Prop := 0 ≤ j ∧ j ≤ 1000000 ∧ i.natAbs < 2 ^ 64
noncomputable def CMul (i j : Int) : Prop := (-(2 ^ 64) < i ∧ i < 2 ^ 64) ∨ (-(2 ^ 64) < j ∧ j < 2 ^ 64)
theorem CMul.ok {i j : Int} (h : CMul i j) : IntMulOk i j := by
  rcases h with ⟨h1, h2⟩ | ⟨h1, h2⟩
  · exact .of_left (intBits_le_64 h1 h2)
  · exact .of_right (intBits_le_64 h1 h2)
theorem zfq (k : Nat) : (0 : Int) ≤ 2 ^ k := by
  rw [two_pow_cast]
  exact Int.natCast_nonneg _
theorem zfr : OpR X (binaryOp .Add) (wP fun i j => .int (i + j)) := ZO fun _ _ _ _ _ _ _ q => add_int q
theorem zfs : OpR X (binaryOp .Sub) (wP fun i j => .int (i - j)) := ZO fun _ _ _ _ _ _ _ q => sub_int q
theorem zft : OpR X (binaryOp .Mult) (rI CMul fun i j => .int (i * j)) := XJ fun _ _ _ _ _ _ _ hc q => mul_int q hc.ok
theorem zfu : OpR X (binaryOp .Mod) (rI (fun _ j => 0 < j) fun i j => .int (i % j)) := XJ fun i j _ _ _ _ _ hc q => by
  have h1 : (0 : Int) < j := hc
  exact mod_int' (by omega) (by rw [Int.fmod_eq_emod_of_nonneg i (by omega)]; exact q)
theorem zfv : OpR X (binaryOp .LShift) (rI zfp fun i j => .int (i * 2 ^ j.toNat)) := XJ fun _ _ _ _ _ _ _ hc q => lshift_int_small hc.1 hc.2.1 hc.2.2 q
theorem zfw : OpR X (binaryOp .RShift) (rI (fun _ j => 0 ≤ j) fun i j => .int (i / 2 ^ j.toNat)) := XJ fun i j _ _ _ _ _ hc q =>
  rshift_int hc (by rw [Int.fdiv_eq_ediv_of_nonneg i (zfq _)]; exact q)
theorem zfx : OpR X (binaryOp .BitAnd) (wP fun i j => .int (Builtin.bitAnd i j)) := ZO fun _ _ _ _ _ _ _ q => and_int q
theorem zfy : OpR X (binaryOp .BitOr) (wP fun i j => .int (Builtin.bitOr i j)) := ZO fun _ _ _ _ _ _ _ q => or_int q
theorem zfz : OpR X (binaryOp .BitXor) (wP fun i j => .int (Builtin.bitXor i j)) := ZO fun _ _ _ _ _ _ _ q => xor_int q
theorem zfA {f : Value → Sem Value} {g : Int → Int}
    (rule : ∀ (i : Int) (t : Tok) (s : Shared) (Q : Value → Shared → Prop) (E : Value → Shared → Prop), Q (.int (g i) s.toks) { s with toks := s.toks + 1 } → wpAny (model X.prog X.w) X.A (f (.int i t)) Q E s) :
    ZN X f (rU fun i => .int (g i)) := by
  intro pins s σ H x v Q I rx h
  obtain ⟨i, rfl, q⟩ := h
  obtain ⟨t, rfl⟩ := rx
  exact rule i t s _ _ ⟨.int (g i), H, I.tok _, ⟨_, rfl⟩, q⟩
theorem zfB : ZN X (unaryOp .USub) (rU fun i => .int (-i)) := zfA fun _ _ _ _ _ q => neg_int q
end
section
variable {X : Cx} {a b c : Expr} {ta tb tc : TE} {pos : Pos}
theorem zfC : OpR X (compareOp .Lt) (wP fun i j => .bl (decide (i < j))) := JR fun _ _ _ _ _ _ _ q => lt_int q
theorem zfD : OpR X (compareOp .LtE) (wP fun i j => .bl (decide (i ≤ j))) := JR fun _ _ _ _ _ _ _ q => le_int q
theorem zfE : OpR X (compareOp .Gt) (wP fun i j => .bl (decide (j < i))) := JR fun _ _ _ _ _ _ _ q => gt_int q
theorem OpR.or {f : Value → Value → Sem Value} {r r' : R2} (h : OpR X f r) (h' : OpR X f r') : OpR X f (fun x y H Q => r x y H Q ∨ r' x y H Q) := by
  intro pins s σ H x y v u Q I rx ry q
  rcases q with q | q
  · exact h pins s σ H x y v u Q I rx ry q
  · exact h' pins s σ H x y v u Q I rx ry q
theorem yv (b : Expr) {op : CmpOp} (h : op ≠ .In := by decide) (h2 : op ≠ .NotIn := by decide) : behindInMarks op b = false := by
  have e1 : (op == CmpOp.In) = false := by cases op <;> first | rfl | exact absurd rfl h
  have e2 : (op == CmpOp.NotIn) = false := by cases op <;> first | rfl | exact absurd rfl h2
  cases b <;> simp [behindInMarks, e1, e2]
theorem zfF {op : CmpOp} {r : R2} (ho : OpR X (compareOp op) r) (ha : PE X a ta) (hb : PE X b tb) (hm : behindInMarks op b = false) : PE X (.Compare a [op] [b] pos) (jd r ta tb) := by
  intro pins s σ H Q I h
  exact wpAny_Compare1 (JQ ha hb I h fun v u s2 x y H2 I2 rx ry q => ho pins s2 σ H2 x y v u Q I2 rx ry q) hm
noncomputable def JS (t : TE) : TT := fun σ H Q => t σ H fun x H' => ∃ k, x = .bl k ∧ Q k H'
theorem gB {op : CmpOp} {r : R2} (ho : OpR X (compareOp op) r) (ha : PE X a ta) (hb : PE X b tb) (hm : behindInMarks op b = false) : PT X (.Compare a [op] [b] pos) (JS (jd r ta tb)) := by
  intro pins s σ H Q I h
  refine wpAny_isTrue_Compare1 (zk (ha pins s σ H _ I h) fun v s1 ⟨x, H1, I1, r1, q1⟩ => zk (hb pins s1 σ H1 _ I1 q1) fun u s2 ⟨y, H2, I2, r2, q2⟩ =>
    zk (ho pins s2 σ H2 x y v u _ I2 r1 r2 q2) fun c s3 ⟨z, H3, I3, r3, k, e, q3⟩ => ?_) hm
  subst e
  cases r3
  exact wpAny_truthy_bool ⟨H3, I3, q3⟩
noncomputable def gC (r r' : R2) (ta tb tc : TE) : TE := fun σ H Q => ta σ H fun x H1 => tb σ H1 fun y H2 => r x y H2 fun z H3 => ∃ k, z = .bl k ∧
  (if k = true then tc σ H3 fun w' H4 => r' y w' H4 Q else Q (.bl false) H3)
theorem zfG {op op' : CmpOp} {r r' : R2} (ho : OpR X (compareOp op) r) (ho' : OpR X (compareOp op') r') (ha : PE X a ta) (hb : PE X b tb) (hc : PE X c tc)
    (hm : lastMarks [op, op'] [b, c] = false := by with_unfolding_all rfl) : PE X (.Compare a [op, op'] [b, c] pos) (gC r r' ta tb tc) := by
  intro pins s σ H Q I h
  refine Compare_chain (zk (ha pins s σ H _ I h) fun v s1 ⟨x, H1, I1, r1, q1⟩ => chain_link (zk (hb pins s1 σ H1 _ I1 q1) fun u s2 ⟨y, H2, I2, r2, q2⟩ =>
    zk (ho pins s2 σ H2 x y v u _ I2 r1 r2 q2) fun d s3 ⟨z, H3, I3, r3, k, e, q3⟩ => ?_)) hm
  subst e
  cases r3
  refine wpAny_truthy_bool ?_
  cases k with
  | false => exact ite_ff ⟨.bl false, H3, I3, rfl, q3⟩
  | true => exact ite_tt (chain_last (zk (hc pins s3 σ H3 _ I3 q3) fun w' s4 ⟨z', H4, I4, r4, q4⟩ => ho' pins s4 σ H4 y z' u w' Q I4 r2 r4 q4))
theorem zfH {op op' : CmpOp} {r r' : R2} (ho : OpR X (compareOp op) r) (ho' : OpR X (compareOp op') r') (ha : PE X a ta) (hb : PE X b tb) (hc : PE X c tc)
    (hm : lastMarks [op, op'] [b, c] = false := by with_unfolding_all rfl) : PT X (.Compare a [op, op'] [b, c] pos) (JS (gC r r' ta tb tc)) := by
  intro pins s σ H Q I h
  refine isTrue_chain (zk (ha pins s σ H _ I h) fun v s1 ⟨x, H1, I1, r1, q1⟩ => test_link (zk (hb pins s1 σ H1 _ I1 q1) fun u s2 ⟨y, H2, I2, r2, q2⟩ =>
    zk (ho pins s2 σ H2 x y v u _ I2 r1 r2 q2) fun d s3 ⟨z, H3, I3, r3, k, e, q3⟩ => ?_)) hm
  subst e
  cases r3
  refine wpAny_truthy_bool ?_
  cases k with
  | false =>
    obtain ⟨k', e', q'⟩ := q3
    cases e'
    exact ite_ff ⟨H3, I3, q'⟩
  | true =>
    refine ite_tt (test_last (zk (hc pins s3 σ H3 _ I3 q3) fun w' s4 ⟨z', H4, I4, r4, q4⟩ => zk (ho' pins s4 σ H4 y z' u w' _ I4 r2 r4 q4) fun d' s5 ⟨z2, H5, I5, r5, k2, e2, q5⟩ => ?_))
    subst e2
    cases r5
    exact wpAny_truthy_bool ⟨H5, I5, q5⟩
noncomputable def JT (K : PySem.W.Frag) (x : V) (H : Hp) (k : Bool) : Prop :=
  match x with
  | .non => k = false
  | .bl b => k = b
  | .int i => k = (i != 0)
  | .str y => y.length ≤ sizeLine ∧ k = ((y.length : Int) != 0)
  | .byt y => y.size ≤ sizeLine ∧ k = ((y.size : Int) != 0)
  | .ref p => (∃ xs, SqL K H p xs ∧ k = !xs.isEmpty) ∨ (∃ xs, SqT K H p xs ∧ k = !xs.isEmpty) ∨ ∃ kvs, H p = some (.dK kvs) ∧ k = !kvs.isEmpty
  | _ => False
theorem zfI {κ : Type} {kvs : List (κ × V)} {vs : List (κ × Value)} (r : KV kvs vs) : (!vs.isEmpty) = !kvs.isEmpty := by
  cases r <;> rfl
theorem gD {xs : List V} {its : List Value} (r : Vals xs its) : (!its.toArray.isEmpty) = !xs.isEmpty := by
  cases r <;> simp
theorem XM : (sizeLine : Nat) < 2 ^ 63 := by rw [sizeLine_eq]; decide
theorem zfJ : zfl X (fun x H Q => ∃ k, JT X.K x H k ∧ Q k H) := by
  intro pins s σ H x v Q I rx h
  obtain ⟨k, e, q⟩ := h
  have hl := XM
  have hs : sizeLine = 16777216 := sizeLine_eq
  cases x with
  | non =>
    cases rx
    have e' : k = false := e
    subst e'
    exact truthy_none ⟨H, I, q⟩
  | bl b =>
    cases rx
    have e' : k = b := e
    subst e'
    exact wpAny_truthy_bool ⟨H, I, q⟩
  | int i =>
    obtain ⟨t, rfl⟩ := rx
    have e' : k = (i != 0) := e
    subst e'
    exact PySem.P.truthy_int ⟨H, I, q⟩
  | str y =>
    obtain ⟨t, rfl⟩ := rx
    obtain ⟨hy, e'⟩ : y.length ≤ sizeLine ∧ k = ((y.length : Int) != 0) := e
    subst e'
    exact PySem.P.truthy_str (by omega) ⟨H, I.tok _, q⟩
  | byt y =>
    obtain ⟨t, rfl⟩ := rx
    obtain ⟨hy, e'⟩ : y.size ≤ sizeLine ∧ k = ((y.size : Int) != 0) := e
    subst e'
    exact PySem.W.truthy_bytes (by omega) ⟨H, I.tok _, q⟩
  | ref p =>
    cases rx
    have e' : (∃ xs, SqL X.K H p xs ∧ k = !xs.isEmpty) ∨ (∃ xs, SqT X.K H p xs ∧ k = !xs.isEmpty) ∨ ∃ kvs, H p = some (.dK kvs) ∧ k = !kvs.isEmpty := e
    rcases e' with ⟨xs, hx, e'⟩ | ⟨xs, hx, e'⟩ | ⟨kvs, hx, e'⟩
    · subst e'
      obtain ⟨its, r, pl, hz⟩ := I.list hx
      have hlen := r.length
      exact wpAny_truthy_list pl.isList (by simp only [List.size_toArray]; omega) ⟨H, I.tok _, by rw [gD r]; exact q⟩
    · subst e'
      obtain ⟨its, r, pl, hz⟩ := I.tuple hx
      have hlen := r.length
      exact truthy_tuple pl (by simp only [List.size_toArray]; omega) ⟨H, I.tok _, by rw [gD r]; exact q⟩
    · subst e'
      obtain ⟨hz, hS, vs, r, m⟩ : kvs.length ≤ sizeLine ∧ (p == sysModules) = false ∧ ∃ vs, KV kvs vs ∧ s.heap.DictOf (yZ X.prog X.w) p vs := I.hok p _ hx
      have hlen : kvs.length = vs.length := Paired.length r
      exact wpAny_truthy_dict hS m (by omega) ⟨H, I.tok _, by rw [zfI r]; exact q⟩
  | _ => exact (show False from e).elim
theorem zfK (ha : PE X a ta) (he : ∀ whole, isTrue a X.env whole = (do let v ← whole; standAt a.pos; holding [v] (truthy v))) :
    PT X a (fun σ H Q => ta σ H fun x H' => ∃ k, JT X.K x H' k ∧ Q k H') := by
  intro pins s σ H Q I h
  exact isTrue_plain (zk (ha pins s σ H _ I h) fun v s1 ⟨x, H1, I1, r1, q1⟩ => zfJ pins s1 σ H1 x v Q I1 r1 q1) (he _)
theorem wQ {x : V} {us : List Value} (r : Vals [x] us) : ∃ u, us = [u] ∧ RelV x u := by
  cases r with
  | cons r1 r2 => cases r2; exact ⟨_, rfl, r1⟩
theorem JU {x y : V} {us : List Value} (r : Vals [x, y] us) : ∃ u w', us = [u, w'] ∧ RelV x u ∧ RelV y w' := by
  cases r with
  | cons r1 r2 =>
    cases r2 with
    | cons r3 r4 => cases r4; exact ⟨_, _, rfl, r1, r3⟩
theorem zfL : CallR X (.builtin "abs") (fun xs H Q => ∃ i, xs = [.int i] ∧ Q (.int (if i < 0 then -i else i)) H) := by
  intro pins s σ H xs us Q I r h
  obtain ⟨i, rfl, q⟩ := h
  obtain ⟨u, rfl, t, rfl⟩ := wQ r
  exact call_abs_int fun u tk => ⟨.int (if i < 0 then -i else i), H, I.tok _, ⟨_, rfl⟩, q⟩
theorem zfM (hc : X.calm = true) : CallR X (.builtin "max") (fun xs H Q => ∃ i j, xs = [.int i, .int j] ∧ Q (.int (if j > i then j else i)) H) := by
  intro pins s σ H xs us Q I r h
  obtain ⟨i, j, rfl, q⟩ := h
  obtain ⟨u, w', rfl, ⟨t, rfl⟩, ⟨t', rfl⟩⟩ := JU r
  refine max_two_ints (I.ok.hd hc) fun h' tk k => ⟨_, H, I.kept k, ?_, q⟩
  by_cases hj : j > i
  · rw [if_pos hj, if_pos hj]; exact ⟨_, rfl⟩
  · rw [if_neg hj, if_neg hj]; exact ⟨_, rfl⟩
theorem zfN (hc : X.calm = true) : CallR X (.builtin "min") (fun xs H Q => ∃ i j, xs = [.int i, .int j] ∧ Q (.int (if j < i then j else i)) H) := by
  intro pins s σ H xs us Q I r h
  obtain ⟨i, j, rfl, q⟩ := h
  obtain ⟨u, w', rfl, ⟨t, rfl⟩, ⟨t', rfl⟩⟩ := JU r
  refine min_two_ints (I.ok.hd hc) fun h' tk k => ⟨_, H, I.kept k, ?_, q⟩
  by_cases hj : j < i
  · rw [if_pos hj, if_pos hj]; exact ⟨_, rfl⟩
  · rw [if_neg hj, if_neg hj]; exact ⟨_, rfl⟩
end
end L2
namespace L2
open PySem PySem.Spec PyProof.Rows
structure ObjM (h : Heap) (x dx C : Addr) (mA : Str → Option Value) : Prop where
  obj : h.get? x = some (PySem.W.instObj C dx)
  ns : h.Ns1 dx mA
  ne : dx ≠ x
theorem zfO {h : Heap} {dx : Addr} {mA : Str → Option Value} (n : h.Ns1 dx mA) : ∃ od, h.get? dx = some od ∧ ∀ name, PySem.W.lookIn name od = some (mA name) := by
  obtain ⟨o, es, ep, ho, hd, hk, _, hm⟩ := n
  refine ⟨o, ho, fun name => ?_⟩
  have e := hm name
  unfold nsFind findBy at e
  rw [← Array.find?_toList] at e
  unfold PySem.W.lookIn
  rw [hd]
  dsimp only
  split
  · rename_i y q
    rw [q] at e
    exact congrArg some e
  · rename_i q
    rw [q] at e
    have a : es.toList.any (·.refKey) = false := by
      rw [List.any_eq_false]
      intro y hy
      obtain ⟨z, t, hkey⟩ := hk y (Array.mem_toList_iff.mp hy)
      simp [DictEntry.refKey, hkey]
    have a' : ¬ es.toList.any (·.refKey) = true := by rw [a]; exact Bool.false_ne_true
    rw [if_neg a']
    exact congrArg some e
theorem ObjM.look {h : Heap} {x dx C : Addr} {mA : Str → Option Value} (I : ObjM h x dx C mA) : ∃ od, PySem.W.InstAt h x (PySem.W.instObj C dx) C (some od) ∧ ∀ name, PySem.W.lookIn name od = some (mA name) :=
  let ⟨od, ho, hl⟩ := zfO I.ns
  ⟨od, ⟨I.obj, rfl, rfl, ho⟩, hl⟩
theorem RelO.some_of {v : V} {o : Option Value} (r : RelO (some v) o) : ∃ u, o = some u ∧ RelV v u := by
  cases o with
  | none => exact (show False from r).elim
  | some u => exact ⟨u, rfl, r⟩
structure Cls (K : PySem.W.Frag) (C : Addr) : Prop where
  pg : PySem.W.plainGet K C Str.empty = true
  hd : PySem.W.hasDictIn K C = true
  po : PySem.W.plainOver K C = true
  sa : PySem.W.findIn K (.ref C) "__setattr__" = some (some (.builtin "object.__setattr__"))
theorem Cls.get {K : PySem.W.Frag} {C : Addr} (c : Cls K C) (f : Str) : PySem.W.plainGet K C f = true := c.pg
end L2
namespace L2
open PySem PySem.Spec PyProof.Rows
structure Room (k : Nat) (A : Around) : Prop where
  hd : A.handled = none
  dp : A.depth + 3 * k + 5 < recursionLimit
  un : A.units + 16 * k + 200 < cLine
theorem Room.deeper {k : Nat} {A : Around} (r : Room (k + 1) A) (env : Env) : Room k (A.deeper env) :=
  ⟨r.hd, by have := r.dp; show A.depth + 1 + 3 * k + 5 < _; omega, by have := r.un; show A.units + 3 + 16 * k + 200 < _; omega⟩
theorem Room.in1 {k : Nat} {A : Around} (r : Room (k + 1) A) : Room k A.in1 :=
  ⟨r.hd, by have := r.dp; show A.depth + 3 * k + 5 < _; omega, by have := r.un; show A.units + 1 + 16 * k + 200 < _; omega⟩
theorem Room.depth {k : Nat} {A : Around} (r : Room k A) : A.depth < recursionLimit := by have := r.dp; omega
theorem Room.units {k : Nat} {A : Around} (r : Room k A) : A.units + 64 < cLine := by have := r.un; omega
noncomputable def jN : TA := fun _ H Q => Q [] H
noncomputable def XN (ta : TE) (tr : TA) : TA := fun σ H Q => ta σ H fun x H1 => tr σ H1 fun xs H2 => Q (x :: xs) H2
section
variable {X : Cx} {e : Expr} {es : List Expr} {te : TE} {t : TA} {pos : Pos}
theorem wR : PA X [] jN := fun _ _ _ _ H Q I h => Calls.spliced_nil ⟨[], H, I, .nil, h⟩
theorem vp (ha : PE X e te) (hr : PA X es t) (hs : starEach (e :: es) X.env = (false, eval e X.env) :: starEach es X.env := by rfl) : PA X (e :: es) (XN te t) := by
  intro pos pins s σ H Q I h
  rw [hs]
  show wpAny _ _ (spliced ((false, eval e X.env) :: backTo pos (starEach es X.env))) _ _ s
  refine Calls.spliced_cons (zk (ha pins s σ H _ I h) fun u s1 ⟨x, H1, I1, r1, q1⟩ => ?_)
  exact zk (hr pos pins s1 σ H1 _ I1 q1) fun us s2 ⟨xs, H2, I2, r2, q2⟩ => ⟨x :: xs, H2, I2, .cons r1 r2, q2⟩
noncomputable def zfP (t : TA) : TE := fun σ H Q => t σ H fun xs H1 => xs.length ≤ sizeLine ∧ ∀ p, H1 p = none → Q (.ref p) (zr H1 p (.tup xs))
noncomputable def ZP (t : TA) : TE := fun σ H Q => t σ H fun xs H1 => xs.length ≤ sizeLine ∧ ∀ p, H1 p = none → Q (.ref p) (zr H1 p (.lst xs))
theorem zfQ {x1} (h : PA X es t) : PE X (.Tuple es x1 pos) (zfP t) := by
  intro pins s σ H Q I hq
  refine wpAny_Tuple_spliced (zk (h pos pins s σ H _ I hq) fun us s1 ⟨xs, H1, I1, r, z, q⟩ => ⟨by rw [← r.length]; exact z, ?_⟩)
  have hf : H1 s1.heap.objs.size = none := I1.hok.fresh (Nat.le_refl _)
  refine ⟨.ref s1.heap.objs.size, zr H1 s1.heap.objs.size (.tup xs), I1.laid (t' := s1.toks) (fun b u e => Heap.get?_push_of_some _ e) (Nat.le_refl _) ?_, rfl, q _ hf⟩
  exact ⟨z, us, r, ⟨_, Heap.get?_push_size _ rfl, rfl, _, rfl⟩⟩
theorem XO (h : PA X es t) : PE X (.List es pos) (ZP t) := by
  intro pins s σ H Q I hq
  refine wpAny_List_spliced (zk (h pos pins s σ H _ I hq) fun us s1 ⟨xs, H1, I1, r, z, q⟩ => ⟨by rw [← r.length]; exact z, ?_⟩)
  have hf : H1 s1.heap.objs.size = none := I1.hok.fresh (Nat.le_refl _)
  refine ⟨.ref s1.heap.objs.size, zr H1 s1.heap.objs.size (.lst xs), I1.laid (t' := s1.toks) (fun b u e => Heap.get?_push_of_some _ e) (Nat.le_refl _) ?_, rfl, q _ hf⟩
  exact ⟨z, us, 0, r, Heap.get?_push_size _ rfl⟩
end
noncomputable abbrev Sp := List V → Hp → VK → XK → Prop
noncomputable abbrev xP := List Env → Hp → Shared → XK → Value → Shared → Prop
structure Env0 (P : Program) (w : World) (K : PySem.W.Frag) (mg : Str → Option Value) (base : Heap) (A : Around) (outer : List Env) (s : Shared) (H : Hp) : Prop where
  frames : A.frames = some outer
  mod : Mod K mg base
  bs : ∀ b o, base.get? b = some o → s.heap.get? b = some o ∧ H b = none
  bsz : base.objs.size ≤ s.heap.objs.size
  funs : s.heap.FunFrames base outer
  frf : ∀ b ∈ wg outer, H b = none
  hok : HOk P w H s.heap
  bare : AllBare s.gens
noncomputable def CE (outer : List Env) (P : Program) (w : World) (H : Hp) (s : Shared) (Q : VK) (u : Value) (s' : Shared) : Prop :=
  ∃ v H', s'.os = s.os ∧ AllBare s'.gens ∧ Un (wg outer) [] H H' s.heap s'.heap ∧ HOk P w H' s'.heap ∧ RelV v u ∧ Q v H'
noncomputable def CR (CX : xP) (outer : List Env) (P : Program) (w : World) (H : Hp) (s : Shared) (Q : VK) (E : XK) (r : Result) (s' : Shared) : Prop :=
  match r with
  | .ok (.ret u) => CE outer P w H s Q u s'
  | .ok _ => False
  | .error e => CX outer H s E e s'
structure FnOk (P : Program) (w : World) (K : PySem.W.Frag) (mg : Str → Option Value) (base : Heap) (CX : xP) (k : Nat) (f : Addr) (fd : FuncData) (ps : List Str) (sp : Sp) : Prop where
  len : ∀ vs H Q E, sp vs H Q E → vs.length = ps.length
  run : ∀ (A : Around) (outer : List Env) (s : Shared) (H : Hp) (args : Args) (us : List Value) (vs : List V) (Q : VK) (E : XK), Room k A → Env0 P w K mg base A outer s H → BindsTo s fd args (ps.zip us) → Vals vs us → sp vs H Q E →
    codeAny (model P w) A (.call (.ref f) args) (CR CX outer P w H s Q E) s
theorem FnOk.imp {P : Program} {w : World} {K : PySem.W.Frag} {mg : Str → Option Value} {base : Heap} {CX : xP} {k : Nat} {f : Addr} {fd : FuncData} {ps : List Str} {sp sp' : Sp} (F : FnOk P w K mg base CX k f fd ps sp)
    (h : ∀ vs H Q E, sp' vs H Q E → sp vs H Q E) : FnOk P w K mg base CX k f fd ps sp' :=
  ⟨fun vs H Q E q => F.len vs H Q E (h _ _ _ _ q), fun A outer s H args us vs Q E hr he hb hv hs => F.run A outer s H args us vs Q E hr he hb hv (h _ _ _ _ hs)⟩
theorem Env0.in1 {P : Program} {w : World} {K : PySem.W.Frag} {mg : Str → Option Value} {base : Heap} {A : Around} {outer : List Env} {s : Shared} {H : Hp} (e : Env0 P w K mg base A outer s H) :
    Env0 P w K mg base A.in1 outer s H := ⟨e.frames, e.mod, e.bs, e.bsz, e.funs, e.frf, e.hok, e.bare⟩
section
variable {X : Cx} {pins : List (Addr × Obj)} {σ : St} {H : Hp} {s s' : Shared}
theorem Inv.env0 (I : Inv X pins σ H s) : Env0 X.prog X.w X.K X.mg X.base X.A X.stack s H :=
  ⟨I.ok.frames, I.ok.mod, I.bs, Nat.le_trans I.ok.bsz I.sz, I.stack, I.stkFree, I.hok, I.bare⟩
theorem Inv.after {Q : VK} {u : Value} (I : Inv X pins σ H s) (h : CE X.stack X.prog X.w H s Q u s') : EP X pins σ Q u s' := by
  obtain ⟨v, H', os, bare, un, hok, r, q⟩ := h
  obtain ⟨hh, g, d, t, os'⟩ := s'
  obtain rfl : os' = s.os := os
  exact ⟨v, H', I.call (h' := hh) (g' := g) (d' := d) (t' := t) (ch := []) un hok bare (fun b z => absurd z (by simp)), r, q⟩
end
noncomputable def zfR (sp : Sp) (dvs : List V) (E : XK) (t : TA) : TE := fun σ H Q => t σ H fun vs H1 => sp (vs ++ dvs) H1 Q E
noncomputable def Binds (K : PySem.W.Frag) (fd : FuncData) (ps : List Str) (ds : List Value) : Prop :=
  ∀ (s : Shared) (us : List Value), K.In s.heap → (us ++ ds).length = ps.length → BindsTo s fd ⟨us, []⟩ (ps.zip (us ++ ds))
theorem Binds.all {K : PySem.W.Frag} {fd : FuncData} {ps : List Str} (h : ∀ us : List Value, us.length = ps.length → bindArgs fd ⟨us, []⟩ = pure (ps.zip us)) : Binds K fd ps [] := fun s us _ hl => by
  rw [List.append_nil] at hl ⊢
  exact .of_eq (h us hl)
noncomputable def JV (CX : xP) (X : Cx) (E : XK) : Prop := ∀ (pins : List (Addr × Obj)) (σ : St) (H : Hp) (s : Shared) (e : Value) (s' : Shared), Inv X pins σ H s → CX X.stack H s E e s' → X.xe e s'
section
variable {X : Cx} {CX : xP} {k : Nat} {f C : Addr} {fd : FuncData} {ps : List Str} {sp : Sp} {dvs : List V} {ds : List Value} {E : XK} {x m : Str} {p pos apos : Pos} {e o : Expr} {es : List Expr} {ta : TE} {t : TA}
theorem zfS {pins : List (Addr × Obj)} {σ : St} {H : Hp} {s : Shared} {Q : VK} {us : List Value} {vs : List V} (F : FnOk X.prog X.w X.K X.mg X.base CX k f fd ps sp) (hr : Room k X.A) (hb : Binds X.K fd ps ds) (hd : Vals dvs ds) (hx : JV CX X E)
    (I : Inv X pins σ H s) (r : Vals vs us) (h : sp (vs ++ dvs) H Q E) : wpAny (model X.prog X.w) X.A (call (.ref f) us) (EP X pins σ Q) X.xe s := by
  have r2 : Vals (vs ++ dvs) (us ++ ds) := r.append hd
  have hl : (us ++ ds).length = ps.length := by rw [← r2.length]; exact F.len _ _ _ _ h
  refine wpAny_call (codeAny_mono (F.run X.A X.stack s H ⟨us, []⟩ (us ++ ds) (vs ++ dvs) Q E hr I.env0 (hb s us I.kIn hl) r2 h) fun r s' hq => ?_)
  cases r with
  | error e => exact hx pins σ H s e s' I hq
  | ok fl =>
    cases fl with
    | ret u => exact I.after hq
    | next => exact False.elim hq
    | brk => exact False.elim hq
    | cont => exact False.elim hq
theorem zfT (F : FnOk X.prog X.w X.K X.mg X.base CX k f fd ps sp) (hr : Room k X.A) (hg : Gl X x) (hm : X.mg x = some (.ref f)) (hk : PySem.W.keepIn X.K (.ref f) = true) (hb : Binds X.K fd ps ds) (hd : Vals dvs ds) (hx : JV CX X E)
    (ha : PA X (e :: es) t) (hdb : (x == ("__debug__" : Str)) = false := by decide) (he : starEach (e :: es) X.env = (false, eval e X.env) :: starEach es X.env := by rfl) (hpl : (backTo pos (starEach es X.env)).any (·.1) = false := by rfl) :
    PE X (.Call (.Name x p) (e :: es) [] pos) (zfR sp dvs E t) := by
  intro pins s σ H Q I h
  refine wpAny_Call_Name_kw (gk I hg hm ?_ hdb)
  refine PySem.W.callWith_K (h₀ := X.base) I.ok.mod.kin hk (zk (ha pos pins s σ H _ I h) fun us s1 ⟨vs, H1, I1, r, q⟩ => ⟨I1.kIn, ?_⟩) he hpl
  exact zfS F hr hb hd hx I1 r q
end
structure FnScope (N P : List Str) (sc : Scope) : Prop where
  kind : sc.kind = .function
  co : sc.isCoroutine = false
  gen : sc.isGenerator = false
  nd : N.Nodup
  pre : N.take P.length = P
  par : ∀ x ∈ P, sc.names.lookup x = some .local ∨ sc.names.lookup x = some .cell
  nofree : ∀ y ∈ sc.names, y.2 ≠ .free
theorem gE {kindOf : Str → Option NameKind} {x : Str} : ∀ {binds : List (Str × Value)} {m : Str → Option Value}, (∀ v, (x, v) ∉ binds) → bindL kindOf binds m x = m x
  | [], _, _ => rfl
  | (n, v) :: r, m, h => by
    unfold bindL
    rw [gE fun w hw => h w (List.mem_cons_of_mem _ hw)]
    split
    · have : x ≠ n := by rintro rfl; exact h v List.mem_cons_self
      simp [this]
    · rfl
theorem gF {kindOf : Str → Option NameKind} {x : Str} : ∀ {binds : List (Str × Value)} {m : Str → Option Value}, (∀ v, (x, v) ∉ binds) → bindC kindOf binds m x = m x
  | [], _, _ => rfl
  | (n, v) :: r, m, h => by
    unfold bindC
    rw [gF fun w hw => h w (List.mem_cons_of_mem _ hw)]
    split
    · rfl
    · have : x ≠ n := by rintro rfl; exact h v List.mem_cons_self
      simp [this]
theorem gG {kindOf : Str → Option NameKind} {x : Str} {v : Value} : ∀ {P : List Str} {vs : List Value} {i : Nat} {m : Str → Option Value}, P.Nodup → P[i]? = some x → vs[i]? = some v → kindOf x = some .local →
    bindL kindOf (P.zip vs) m x = some v
  | [], _, _, _, _, h, _, _ => by simp at h
  | _ :: _, [], _, _, _, _, h, _ => by simp at h
  | p :: P, w :: vs, 0, m, nd, h1, h2, hk => by
    simp at h1 h2; subst h1; subst h2
    show bindL kindOf ((p, w) :: P.zip vs) m p = _
    unfold bindL
    rw [gE fun v hv => (List.nodup_cons.mp nd).1 (List.of_mem_zip hv).1, if_pos hk]
    simp
  | p :: P, w :: vs, i + 1, m, nd, h1, h2, hk => by
    show bindL kindOf ((p, w) :: P.zip vs) m x = _
    unfold bindL
    exact gG (i := i) (List.nodup_cons.mp nd).2 (by simpa using h1) (by simpa using h2) hk
theorem gH {kindOf : Str → Option NameKind} {x : Str} {v : Value} : ∀ {P : List Str} {vs : List Value} {i : Nat} {m : Str → Option Value}, P.Nodup → P[i]? = some x → vs[i]? = some v → kindOf x ≠ some .local →
    bindC kindOf (P.zip vs) m x = some v
  | [], _, _, _, _, h, _, _ => by simp at h
  | _ :: _, [], _, _, _, _, h, _ => by simp at h
  | p :: P, w :: vs, 0, m, nd, h1, h2, hk => by
    simp at h1 h2; subst h1; subst h2
    show bindC kindOf ((p, w) :: P.zip vs) m p = _
    unfold bindC
    rw [gF fun v hv => (List.nodup_cons.mp nd).1 (List.of_mem_zip hv).1, if_neg hk]
    simp
  | p :: P, w :: vs, i + 1, m, nd, h1, h2, hk => by
    show bindC kindOf ((p, w) :: P.zip vs) m x = _
    unfold bindC
    exact gH (i := i) (List.nodup_cons.mp nd).2 (by simpa using h1) (by simpa using h2) hk
noncomputable def xH (N : List Str) (vs : List V) : St := vs.map some ++ List.replicate (N.length - vs.length) none
noncomputable def vL (CX : xP) (P : Program) (w : World) (K : PySem.W.Frag) (mg : Str → Option Value) (base : Heap) (N : List Str) (qual : Str) (scope : Scope) (f : Addr) (cd : Value) (A : Around) (outer : List Env) (s : Shared) (H : Hp) (E : XK) : Cx where
  prog := P
  w := w
  K := K
  mg := mg
  base := base
  A := A.deeper (envOfC qual scope s.heap.objs.size f cd)
  N := N
  s₀ := s
  H₀ := H
  env := envOfC qual scope s.heap.objs.size f cd
  outer := outer
  stack := envOfC qual scope s.heap.objs.size f cd :: outer
  ex := []
  calm := true
  fn := fun _ => true
  pn := []
  xe := fun e s' => wpAny (model P w) (A.deeper (envOfC qual scope s.heap.objs.size f cd)) (leaving (envOfC qual scope s.heap.objs.size f cd) e) (fun _ s'' => CX outer H s E e s'') (fun e' s'' => CX outer H s E e' s'') s'
theorem gI {sc : Scope} {n : Nat} {x : Str} (h : sc.names.lookup x = some .cell) : ∃ c, (cellsFrom n sc.names []).lookup x = some c := by
  have q := PySem.W.cellsFrom_some sc.names n [] (.inl h)
  exact Option.isSome_iff_exists.mp q
theorem zfU {CX : xP} {P : Program} {w : World} {K : PySem.W.Frag} {mg : Str → Option Value} {base : Heap} {N ps : List Str} {qual : Str} {scope : Scope} {f : Addr} {cd : Value} {A : Around} {outer : List Env} {s s1 : Shared} {H : Hp} {E : XK} {us : List Value} {vs : List V}
    (S : FnScope N ps scope) (hd : A.handled = none) (e0 : Env0 P w K mg base A outer s H) (hl : vs.length = ps.length) (r : Vals vs us)
    (x : InCallC s s.heap.objs.size (bindL (envOfC qual scope s.heap.objs.size f cd).kindOf (ps.zip us) fun _ => none) (cellsFrom (s.heap.objs.size + 1) scope.names []) (bindC (envOfC qual scope s.heap.objs.size f cd).kindOf (ps.zip us) fun _ => none) s1) :
    Inv (vL CX P w K mg base N qual scope f cd A outer s H E) [] (xH N vs) H s1 := by
  have hpl : ps.length ≤ N.length := by have := congrArg List.length S.pre; rw [List.length_take] at this; omega
  obtain ⟨h1, tk, rfl, hk⟩ := x.done
  have noA : ∀ b : Addr, b ∉ (vL CX P w K mg base N qual scope f cd A outer s H E).ex := fun b z => absurd (show b ∈ ([] : List Addr) from z) (by simp)
  refine ⟨⟨e0.mod, S.kind, rfl, rfl, Nat.le_refl _, fun y z c h1 h2 => ?_, fun y hy => ?_, fun y c _ h => ?_, fun _ => hd, Around.frames_deeper e0.frames, .inr ⟨rfl, rfl⟩, fun b z => absurd z (noA b), e0.bs, e0.bsz, fun b _ _ => noA b, fun b z => absurd z (noA b), e0.funs, e0.frf⟩,
    rfl, e0.bare, Un.kept hk, ⟨_, x.toInCall.ns, fun i y v h1 h2 h3 => ?_⟩, fun y c h => ⟨_, x.cell y c h⟩, e0.hok.fresh (Nat.le_refl _), fun y c h => ?_, fun p hp => absurd (show p ∈ ([] : List (Addr × Obj)) from hp) (by simp), e0.hok.kept hk, ?_⟩
  · exact name_of_addr x.apart (PySem.mem_of_lookup h1) (PySem.mem_of_lookup h2)
  · have hy : scope.names.lookup y = some .cell ∨ scope.names.lookup y = some .free := hy
    rcases hy with hy | hy
    · exact gI hy
    · exact absurd rfl (S.nofree _ (PySem.mem_of_lookup hy))
  · exact Nat.le_of_lt (x.above y c (PySem.mem_of_lookup h))
  · have hi : i < vs.length := by
      unfold xH at h2
      by_cases hi : i < vs.length
      · exact hi
      · rw [List.getElem?_append_right (by simpa using hi)] at h2
        rw [List.getElem?_replicate] at h2
        split at h2 <;> cases h2
    have ha : vs[i]? = some v := by
      unfold xH at h2
      rw [List.getElem?_append_left (by simpa using hi), List.getElem?_map] at h2
      cases e : vs[i]? with
      | none => rw [e] at h2; cases h2
      | some a => rw [e] at h2; cases h2; rfl
    obtain ⟨u, hu, rv⟩ := r.get ha
    have hp : ps[i]? = some y := by
      rw [← S.pre, List.getElem?_take_of_lt (by omega)]; exact h1
    have ndP : ps.Nodup := by rw [← S.pre]; exact S.nd.sublist (List.take_sublist _ _)
    refine ⟨u, rv, ?_⟩
    rcases S.par y (List.mem_of_getElem? hp) with k | k
    · exact .inl ⟨k, gG ndP hp hu k⟩
    · obtain ⟨c, e⟩ := gI (n := s.heap.objs.size + 1) k
      refine .inr ⟨.inl k, c, e, ?_⟩
      have q := x.cell y c e
      rw [gH ndP hp hu (by show scope.names.lookup y ≠ _; rw [k]; decide)] at q
      exact q
  · exact e0.hok.fresh (Nat.le_of_lt (x.above y c (PySem.mem_of_lookup h)))
  · unfold xH
    show _ = N.length
    rw [List.length_append, List.length_map, List.length_replicate]
    omega
theorem zfV {CX : xP} {P : Program} {w : World} {K : PySem.W.Frag} {mg : Str → Option Value} {base : Heap} {k : Nat} {f : Addr} {name qual : Str} {params : Arguments} {body : List Stmt} {scope : Scope} {dV kV doc pm cdv ct oc : Value} {an od : Option Addr}
    {osl : Array (Option Value)} {N ps : List Str} {sp : Sp} (lk : K.lookup f = some ⟨oc, od, .func (PySem.W.fnOf name qual params body scope dV kV doc pm an cdv ct), osl⟩) (hcd : PySem.W.codeIn K cdv qual = true) (S : FnScope N ps scope)
    (len : ∀ vs H Q E, sp vs H Q E → vs.length = ps.length)
    (hbody : ∀ (A : Around) (outer : List Env) (s : Shared) (H : Hp) (vs : List V) (Q : VK) (E : XK), Room k (A.deeper (envOfC qual scope s.heap.objs.size f cdv)) → sp vs H Q E →
      ∃ t, PSs (vL CX P w K mg base N qual scope f cdv A outer s H E) body t ∧ t { nx := fun _ H' => Q .non H', rt := Q } (xH N vs) H) :
    FnOk P w K mg base CX (k + 1) f (PySem.W.fnOf name qual params body scope dV kV doc pm an cdv ct) ps sp := by
  refine ⟨len, fun A outer s H args us vs Q E hr e0 hb r hsp => ?_⟩
  have hl := len _ _ _ _ hsp
  have KX : K.In s.heap := e0.mod.kin.keeps fun b o e => (e0.bs b o e).1
  have lim : s.heap.NoLimit := e0.mod.nolimit.keeps fun b o e => (e0.bs b o e).1
  have hkind : ∀ y ∈ ps.zip us, scope.names.lookup y.1 = some .local ∨ (scope.names.lookup y.1 = some .cell ∧ ((cellsFrom (s.heap.objs.size + 1) scope.names []).lookup y.1).isSome = true) := fun ⟨n, v⟩ hy => by
    rcases S.par n (List.of_mem_zip hy).1 with q | q
    · exact .inl q
    · exact .inr ⟨q, PySem.W.cellsFrom_some _ _ _ (.inl q)⟩
  refine codeAny_call_function hr.depth (KX _ _ lk) rfl S.co S.gen rfl (PySem.W.codeRec_of KX hcd) (hb _ _ _ _ ?_)
  refine wpAny_newFunctionEnv_cells S.kind hkind fun env he s1 x => ?_
  subst he
  refine ⟨lim.keeps x.toInCall.keep, codeAny_func ?_⟩
  obtain ⟨t, ht, hq⟩ := hbody A outer s H vs Q E (hr.deeper _) hsp
  have I : Inv (vL CX P w K mg base N qual scope f cdv A outer s H E) [] (xH N vs) H s1 := zfU S hr.hd e0 hl r x
  refine wpAny_mono (ht [] s1 (xH N vs) H _ I hq) (fun fl s' hs => ?_) fun e s' hs => hs
  have fin : ∀ {σ' : St} {H' : Hp} {v : V} {u : Value}, Inv (vL CX P w K mg base N qual scope f cdv A outer s H E) [] σ' H' s' → RelV v u → Q v H' → CE outer P w H s Q u s' :=
    fun {σ' H' v u} J rv q => ⟨v, H', J.os, J.bare, J.base, J.hok, rv, q⟩
  cases fl with
  | ret u =>
    obtain ⟨v, σ', H', J, rv, q⟩ := hs
    exact fin J rv q
  | next =>
    obtain ⟨σ', H', J, q⟩ := hs
    exact fin (v := V.non) (u := Value.none) J rfl q
  | brk =>
    obtain ⟨_, _, _, q⟩ := hs
    exact False.elim q
  | cont =>
    obtain ⟨_, _, _, q⟩ := hs
    exact False.elim q
end L2
namespace L2
open PySem PySem.Spec PyProof.Rows
section
variable {X : Cx} {x : Str} {p pos : Pos} {e : Expr} {es : List Expr} {t : TA} {id T : String} {r : List V → Hp → VK → Prop}
noncomputable def JW (r : List V → Hp → VK → Prop) (t : TA) : TE := fun σ H Q => t σ H fun vs H1 => r vs H1 Q
theorem gJ (hc : CallR X (.builtin id) r) (hg : Gl X x) (hm : X.mg x = none) (hv : bootBuiltins x = some (.builtin id)) (ha : PA X (e :: es) t) (hn : x ≠ "__name__" := by decide) (hdb : (x == ("__debug__" : Str)) = false := by decide)
    (he : starEach (e :: es) X.env = (false, eval e X.env) :: starEach es X.env := by rfl) (hpl : (backTo pos (starEach es X.env)).any (·.1) = false := by rfl) : PE X (.Call (.Name x p) (e :: es) [] pos) (JW r t) := by
  intro pins s σ H Q I h
  refine wpAny_Call_Name_kw (ja I hg hm hv ?_ hn hdb)
  exact PyProof.Rows.callWith_builtin1 (zk (ha pos pins s σ H _ I h) fun us s1 ⟨vs, H1, I1, r1, q1⟩ => hc pins s1 σ H1 vs us Q I1 r1 q1) he hpl
theorem JX (hc : CallR X (.type T) r) (hg : Gl X x) (hm : X.mg x = none) (hv : bootBuiltins x = some (.type T)) (ha : PA X (e :: es) t) (hn : x ≠ "__name__" := by decide) (hdb : (x == ("__debug__" : Str)) = false := by decide)
    (he : starEach (e :: es) X.env = (false, eval e X.env) :: starEach es X.env := by rfl) (hpl : (backTo pos (starEach es X.env)).any (·.1) = false := by rfl) : PE X (.Call (.Name x p) (e :: es) [] pos) (JW r t) := by
  intro pins s σ H Q I h
  refine wpAny_Call_Name_kw (ja I hg hm hv ?_ hn hdb)
  exact PyProof.Rows.callWith_type1 (zk (ha pos pins s σ H _ I h) fun us s1 ⟨vs, H1, I1, r1, q1⟩ => hc pins s1 σ H1 vs us Q I1 r1 q1) he hpl
end
end L2
namespace HT
open PySem PyProof.Rows
noncomputable def lexLt : List Int → List Int → Bool
  | [], [] => false
  | [], _ :: _ => true
  | _ :: _, [] => false
  | x :: xs, y :: ys => if x = y then lexLt xs ys else decide (x < y)
theorem lexLt_cons (x y : Int) (xs ys : List Int) : lexLt (x :: xs) (y :: ys) = if x = y then lexLt xs ys else decide (x < y) := rfl
theorem gK : lexLt [] [] = false := rfl
theorem gL (y : Int) (ys : List Int) : lexLt [] (y :: ys) = true := rfl
theorem gM (x : Int) (xs : List Int) : lexLt (x :: xs) [] = false := rfl
theorem gN (A : Around) (s : Shared) (a : Int) (t : Tok) (c : Int) (u : Tok) : ∃ e, SeqAt.EqAt A s (.int a t) (.int c u) e ∧ (e = true ↔ a = c) :=
  ⟨(a == c), SeqAt.EqAt.int_int a t c u, by simp⟩
theorem zfW (A : Around) (s : Shared) (a : Int) (t : Tok) (c : Int) (u : Tok) (prog : Program) (w : World) (E : Value → Shared → Prop) (Q : Value → Shared → Prop) (h : Q (.bool (decide (a < c))) s) :
    wpAny (model prog w) A (richCompare .Lt (.int a t) (.int c u)) Q E s :=
  (PyProof.Rows.lt_int h : wpAny (model prog w) A (compareOp .Lt (.int a t) (.int c u)) Q E s)
section
open PySem.SeqAt
open PySem.AutoSeq1 (wpAny_loadPart')
open PySem.MeetsSeq PySem.MeetsSeq2 PySem.MeetsSeq3
theorem zfX (l b : Addr) (items items2 : Array Value) (n n2 : Nat) (dd dd2 : Option Addr) (sl sl2 : Array (Option Value)) (ns ms : List Int) (hi : IntsAre items.toList ns) (hj : IntsAre items2.toList ms) :
    Meets (Builtin.«tuple.__lt__» ⟨[.ref l, .ref b], []⟩)
      (fun _ R s => s.heap.get? l = some { cls := .type "tuple", dict := dd, data := .seq items n, slots := sl } ∧ s.heap.get? b = some { cls := .type "tuple", dict := dd2, data := .seq items2 n2, slots := sl2 } ∧
        R (.ok (.ret (.bool (lexLt ns ms)))) s) :=
  .of_wp fun prog w A R s h => by
    obtain ⟨hp, g, d, tk, os⟩ := s; obtain ⟨hl, hb, h⟩ := h
    have f2 := AutoSeq1.sub_tuple_tuple
    have z1 : items.size = ns.length := by rw [← hi.length]; simp
    have z2 : items2.size = ms.length := by rw [← hj.length]; simp
    wp_walk using wpAny_loadPart' hl, wpAny_loadPart' hb, wpAny_forIn_list _ (fun zL b s' => b.1 = none ∧ s' = ⟨hp, g, d, tk, os⟩ ∧ ∃ (vs ws : List Value) (ns' ms' : List Int), zL = vs.zip ws ∧
      IntsAre vs ns' ∧ IntsAre ws ms' ∧ ns'.length + items2.size = ms'.length + items.size ∧ R (.ok (.ret (.bool (lexLt ns' ms')))) ⟨hp, g, d, tk, os⟩) _
    case turn =>
      rintro ⟨y, x⟩ zL b s' ⟨hb', rfl, vs, ws, ns', ms', hz, hvi, hwi, hlen, hR⟩
      cases hvi with
      | nil => rw [List.zip_nil_left] at hz; cases hz
      | cons a t hvi' =>
        cases hwi with
        | nil => rw [List.zip_nil_right] at hz; cases hz
        | cons c u hwi' =>
          rw [List.zip_cons_cons] at hz
          injection hz with hyx hrest
          injection hyx with hy hx
          subst hy hx
          rw [lexLt_cons] at hR
          simp only [List.length_cons] at hlen
          obtain ⟨e, he, hiff⟩ := gN A.in1 ⟨hp, g, d, tk, os⟩ a t c u
          refine wpAny_bind (he prog w _ _ ?_)
          cases e with
          | true =>
            rw [if_pos (hiff.mp rfl)] at hR
            wp_walk
            exact ⟨rfl, rfl, _, _, _, _, hrest, hvi', hwi', by omega, hR⟩
          | false =>
            rw [if_neg (fun q => absurd (hiff.mpr q) Bool.false_ne_true)] at hR
            have hri := zfW A.in1 ⟨hp, g, d, tk, os⟩ a t c u prog w
            wp_walk using hri
            exact ⟨_, rfl, by simpa using hR⟩
    case fin =>
      rintro ⟨b1, b2⟩ s' ⟨hb', rfl, vs, ws, ns', ms', hz, hvi, hwi, hlen, hR⟩
      simp only at hb'
      subst hb'
      have hv : lexLt ns' ms' = decide (items.size < items2.size) := by
        cases hvi with
        | nil =>
          cases hwi with
          | nil =>
            simp only [List.length_nil] at hlen
            rw [gK]
            exact (decide_eq_false (by omega)).symm
          | cons c u hw =>
            simp only [List.length_nil, List.length_cons] at hlen
            rw [gL]
            exact (decide_eq_true (by omega)).symm
        | cons a t hv =>
          cases hwi with
          | nil =>
            simp only [List.length_nil, List.length_cons] at hlen
            rw [gM]
            exact (decide_eq_false (by omega)).symm
          | cons c u hw =>
            rw [List.zip_cons_cons] at hz
            cases hz
      rw [hv] at hR
      wp_walk
      exact ⟨_, rfl, by simpa [Builtin.Tuple.tupleCompareSizes] using hR⟩
    case h =>
      exact ⟨rfl, rfl, items.toList, items2.toList, ns, ms, rfl, hi, hj, by omega, h⟩
end
section
variable {prog : Program} {w : World} {A : Around} {E : Value → Shared → Prop} {s : Shared}
theorem lt_tupInts {l b : Addr} {items items2 : Array Value} {ns ms : List Int} {Q : Value → Shared → Prop} (hl : IsTup s.heap l items) (hb : IsTup s.heap b items2) (hi : IntsAre items.toList ns) (hj : IntsAre items2.toList ms)
    (hu : A.units < cLine) (h : Q (.bool (lexLt ns ms)) s) : wpAny (model prog w) A (compareOp .Lt (.ref l) (.ref b)) Q E s := by
  obtain ⟨⟨cls, dd, data, sl⟩, ho, hc, n, hd⟩ := id hl
  obtain ⟨⟨cls2, dd2, data2, sl2⟩, ho2, hc2, n2, hd2⟩ := id hb
  simp only at hc hd hc2 hd2
  subst hc hd hc2 hd2
  exact richCompare_meets_room (op := .Lt) ⟨_, ho, rfl⟩ ⟨_, ho2, rfl⟩ PySem.F.slot_tuple_lt PySem.F.entry_tuple_lt (PySem.F.args_tuple_lt_2 _ _) (zfX l b items items2 n n2 dd dd2 sl sl2 ns ms hi hj)
    ⟨ho, ho2, show Value.bool (lexLt ns ms) ≠ Value.notImplemented ∧ Q (.bool (lexLt ns ms)) s from ⟨(fun x => nomatch x), h⟩⟩ hu
noncomputable def sIx (n d : Nat) : Option Int → Nat
  | none => d
  | some v => if v < 0 then (v + (n : Int)).toNat else min v.toNat n
theorem sIx_none (n d : Nat) : sIx n d none = d := rfl
theorem sIx_nat (n d k : Nat) : sIx n d (some (k : Int)) = min k n := by
  show (if (k : Int) < 0 then ((k : Int) + (n : Int)).toNat else min (k : Int).toNat n) = min k n
  rw [if_neg (by omega), Int.toNat_natCast]
end
end HT
namespace L2
open PySem PySem.Spec PyProof.Rows
noncomputable abbrev TO := St → Hp → (Option Int → Hp → Prop) → Prop
noncomputable def PO (X : Cx) (e : Option Expr) (t : TO) : Prop :=
  ∀ (pins : List (Addr × Obj)) (s : Shared) (σ : St) (H : Hp) (Q : Option Int → Hp → Prop), Inv X pins σ H s → t σ H Q →
    wpAny (model X.prog X.w) X.A (evalPart e X.env) (fun u s' => ∃ o H', Inv X pins σ H' s' ∧ IsPart u o ∧ Q o H') X.xe s
noncomputable def zfY : TO := fun _ H Q => Q none H
noncomputable def zfZ (t : TE) : TO := fun σ H Q => t σ H fun x H1 => ∃ i, x = .int i ∧ Q (some i) H1
theorem vM {ns : List Int} : ∀ {us : List Value}, Vals (ns.map V.int) us → IntsAre us ns := by
  induction ns with
  | nil => intro us r; rw [List.map_nil] at r; cases r; exact .nil
  | cons n ns ih =>
    intro us r
    rw [List.map_cons] at r
    cases r with
    | cons r1 r2 =>
      obtain ⟨t, e⟩ := r1
      subst e
      exact .cons n t (ih r2)
section
variable {X : Cx} {e : Expr} {te : TE} {lo hi : Option Expr} {tl th : TO} {pos p2 : Pos}
theorem zf0 : PO X none zfY := by
  intro pins s σ H Q I h
  rw [evalPart_none]
  exact wpAny_pure ⟨none, H, I, .none, h⟩
theorem zf1 (h : PE X e te) : PO X (some e) (zfZ te) := by
  intro pins s σ H Q I hw
  rw [evalPart_some]
  refine zk (h pins s σ H _ I hw) fun u s1 ⟨x, H1, I1, r1, q1⟩ => ?_
  obtain ⟨i, rfl, q⟩ := q1
  obtain ⟨t, rfl⟩ := r1
  exact ⟨some i, H1, I1, .int i t, q⟩
noncomputable def SlR (X : Cx) (r : V → Option Int → Option Int → Hp → VK → Prop) : Prop :=
  ∀ (pins : List (Addr × Obj)) (s : Shared) (σ : St) (H : Hp) (x : V) (v vl vu : Value) (lo hi : Option Int) (sl : Addr) (Q : VK), Inv X pins σ H s → RelV x v → s.heap.IsSliceOf sl vl vu .none → IsPart vl lo → IsPart vu hi → r x lo hi H Q →
    ∃ T id, typeLookup (.type T) "__getitem__" = pure (some (.builtin id)) ∧ s.TypeIs v T ∧ wpAny (model X.prog X.w) X.A (getItem v (.ref sl)) (EP X pins σ Q) X.xe s
theorem SlR.or {r r' : V → Option Int → Option Int → Hp → VK → Prop} (h : SlR X r) (h' : SlR X r') : SlR X (fun x lo hi H Q => r x lo hi H Q ∨ r' x lo hi H Q) := by
  intro pins s σ H x v vl vu lo hi sl Q I rx hs pl pu q
  rcases q with q | q
  · exact h pins s σ H x v vl vu lo hi sl Q I rx hs pl pu q
  · exact h' pins s σ H x v vl vu lo hi sl Q I rx hs pl pu q
noncomputable def zf2 (r : V → Option Int → Option Int → Hp → VK → Prop) (te : TE) (tl th : TO) : TE := fun σ H Q => te σ H fun x H1 => tl σ H1 fun l H2 => th σ H2 fun u H3 => r x l u H3 Q
theorem zf3 {r : V → Option Int → Option Int → Hp → VK → Prop} (hr : SlR X r) (he : PE X e te) (hl : PO X lo tl) (hu : PO X hi th) : PE X (.Subscript e (.Slice lo hi none p2) pos) (zf2 r te tl th) := by
  intro pins s σ H Q I h
  refine Subscript_ (zk (he pins s σ H _ I h) fun v s1 ⟨x, H1, I1, r1, q1⟩ => ?_)
  refine wpAny_Slice (zk (hl pins s1 σ H1 _ I1 q1) fun vl s2 ⟨l, H2, I2, pl, q2⟩ => zk (hu pins s2 σ H2 _ I2 q2) fun vu s3 ⟨u, H3, I3, pu, q3⟩ => ?_)
  rw [evalPart_none]
  refine wpAny_pure ?_
  have I4 : Inv X pins σ H3 { s3 with heap := s3.heap.push { cls := .type "slice", data := .fields #[vl, vu, .none] } } := I3.kept (t' := s3.toks) fun b ob q => Heap.get?_push_of_some _ q
  obtain ⟨T, id, hT, ht, hg⟩ := hr pins { s3 with heap := s3.heap.push { cls := .type "slice", data := .fields #[vl, vu, .none] } } σ H3 x v vl vu l u s3.heap.objs.size Q I4 r1 (Heap.IsSliceOf.new ..) pl pu q3
  show wpAny (model X.prog X.w) X.A (subscriptTail e (.Slice lo hi none p2) v (.ref s3.heap.objs.size)) (EP X pins σ Q) X.xe { s3 with heap := s3.heap.push { cls := .type "slice", data := .fields #[vl, vu, .none] } }
  exact tail_any (ops := [.ref s3.heap.objs.size, v]) ht hT hg (by with_unfolding_all rfl)
noncomputable def jO (xs : List V) (lo hi : Option Int) : List V := (xs.drop (HT.sIx xs.length 0 lo)).take (HT.sIx xs.length xs.length hi - HT.sIx xs.length 0 lo)
theorem zf4 (xs : List V) (lo hi : Option Int) : (jO xs lo hi).length ≤ xs.length := by
  unfold jO
  rw [List.length_take, List.length_drop]
  omega
noncomputable def zf5 (K : PySem.W.Frag) : R2 := fun x y H Q => ∃ a b ns ms, x = .ref a ∧ y = .ref b ∧ SqT K H a (ns.map V.int) ∧ SqT K H b (ms.map V.int) ∧ Q (.bl (HT.lexLt ns ms)) H
theorem zf6 (hu : X.A.units < cLine) : OpR X (compareOp .Lt) (zf5 X.K) := by
  intro pins s σ H x y v u Q I rx ry h
  obtain ⟨a, b, ns, ms, rfl, rfl, ha, hb, q⟩ := h
  cases rx
  cases ry
  obtain ⟨its, r1, p1, _⟩ := I.tuple ha
  obtain ⟨its2, r2, p2, _⟩ := I.tuple hb
  have i1 : IntsAre its.toArray.toList ns := vM r1
  have i2 : IntsAre its2.toArray.toList ms := vM r2
  exact HT.lt_tupInts p1 p2 i1 i2 hu ⟨.bl (HT.lexLt ns ms), H, I, rfl, q⟩
end
end L2
namespace L2
open PySem PySem.Spec PyProof.Rows
noncomputable def ixN (n : Nat) (i : Int) : Option Nat := if 0 ≤ i then (if i < n then some i.toNat else none) else if -(n : Int) ≤ i then some (i + n).toNat else none
noncomputable def atI {α : Type} (xs : List α) (i : Int) : Option α := (ixN xs.length i).bind fun j => xs[j]?
theorem zf7 {n : Nat} {i : Int} {j : Nat} (h : ixN n i = some j) : seqIndex? i n = some j ∧ j < n ∧ -(n : Int) ≤ i ∧ i < n := by
  unfold ixN at h
  by_cases h0 : 0 ≤ i
  · rw [if_pos h0] at h
    by_cases h1 : i < n
    · rw [if_pos h1] at h
      have e : i.toNat = j := Option.some.inj h
      exact ⟨by rw [seqIndex_of h0 h1, e], by omega, by omega, h1⟩
    · rw [if_neg h1] at h; cases h
  · rw [if_neg h0] at h
    by_cases h1 : -(n : Int) ≤ i
    · rw [if_pos h1] at h
      have e : (i + n).toNat = j := Option.some.inj h
      exact ⟨by rw [seqIndex_neg (by omega) h1, e], by omega, h1, by omega⟩
    · rw [if_neg h1] at h; cases h
theorem gO {α : Type} {xs : List α} {i : Int} {v : α} (h : atI xs i = some v) : ∃ j, seqIndex? i xs.length = some j ∧ xs[j]? = some v ∧ j < xs.length ∧ -(xs.length : Int) ≤ i ∧ i < xs.length := by
  unfold atI at h
  cases e : ixN xs.length i with
  | none => rw [e] at h; cases h
  | some j =>
    rw [e] at h
    obtain ⟨h1, h2, h3, h4⟩ := zf7 e
    exact ⟨j, h1, h, h2, h3, h4⟩
theorem atI_nat {α : Type} {xs : List α} {j : Nat} {v : α} (h : xs[j]? = some v) : atI xs (j : Int) = some v := by
  have hj : j < xs.length := (List.getElem?_eq_some_iff.mp h).1
  have e : ixN xs.length (j : Int) = some j := by
    unfold ixN
    rw [if_pos (by omega), if_pos (by omega)]; simp
  unfold atI; rw [e]; exact h
noncomputable def gP (b : Expr) : Prop := ∀ o i, subscripted b false o i = operate [o, i] (getItem o i)
noncomputable def IxR (X : Cx) (r : R2) : Prop :=
  ∀ (value slice : Expr) (pins : List (Addr × Obj)) (s : Shared) (σ : St) (H : Hp) (x y : V) (v u : Value) (Q : VK), Inv X pins σ H s → RelV x v → RelV y u → r x y H Q →
    subscripted slice false v u = operate [v, u] (getItem v u) → wpAny (model X.prog X.w) X.A (subscriptTail value slice v u) (EP X pins σ Q) X.xe s
noncomputable def MtR (X : Cx) (id : String) (r : V → List V → Hp → VK → Prop) : Prop :=
  ∀ (pins : List (Addr × Obj)) (s : Shared) (σ : St) (H : Hp) (x : V) (xs : List V) (v : Value) (us : List Value) (Q : VK), Inv X pins σ H s → RelV x v → Vals xs us → r x xs H Q →
    wpAny (model X.prog X.w) X.A (call (.builtin id) (v :: us)) (EP X pins σ Q) X.xe s
section
variable {X : Cx} {a b : Expr} {ta tb : TE} {pos : Pos}
theorem IxR.or {r r' : R2} (h : IxR X r) (h' : IxR X r') : IxR X (fun x y H Q => r x y H Q ∨ r' x y H Q) := by
  intro value slice pins s σ H x y v u Q I rx ry q hs
  rcases q with q | q
  · exact h value slice pins s σ H x y v u Q I rx ry q hs
  · exact h' value slice pins s σ H x y v u Q I rx ry q hs
theorem MtR.or {id : String} {r r' : V → List V → Hp → VK → Prop} (h : MtR X id r) (h' : MtR X id r') : MtR X id (fun x xs H Q => r x xs H Q ∨ r' x xs H Q) := by
  intro pins s σ H x xs v us Q I rx rs q
  rcases q with q | q
  · exact h pins s σ H x xs v us Q I rx rs q
  · exact h' pins s σ H x xs v us Q I rx rs q
theorem gQ {r : R2} (hr : IxR X r) (ha : PE X a ta) (hb : PE X b tb) (hs : gP b) : PE X (.Subscript a b pos) (jd r ta tb) := by
  intro pins s σ H Q I h
  exact Subscript_ (JQ ha hb I h fun v u s2 x y H2 I2 rx ry q => hr a b pins s2 σ H2 x y v u Q I2 rx ry q (hs _ _))
noncomputable def gR (K : PySem.W.Frag) : R2 := fun x y H Q => ∃ p xs i v, x = .ref p ∧ y = .int i ∧ SqL K H p xs ∧ atI xs i = some v ∧ Q v H
noncomputable def zf8 (K : PySem.W.Frag) : R2 := fun x y H Q => ∃ p xs i v, x = .ref p ∧ y = .int i ∧ SqT K H p xs ∧ atI xs i = some v ∧ Q v H
theorem gS : IxR X (gR X.K) := by
  intro value slice pins s σ H x y v u Q I rx ry h hs
  obtain ⟨p, xs, i, z, rfl, rfl, hq, he, q⟩ := h
  cases rx
  obtain ⟨t, rfl⟩ := ry
  obtain ⟨its, r, pl, hz⟩ := I.list hq
  obtain ⟨j, h1, h2, h3, h4, h5⟩ := gO he
  obtain ⟨w, ew, rw'⟩ := r.get h2
  have hl := r.length
  have hn := XM
  have fin : EP X pins σ Q w s := ⟨z, H, I, rw', q⟩
  by_cases h0 : 0 ≤ i
  · have hj : i.toNat = j := by
      rw [seqIndex_of h0 h5] at h1
      exact Option.some.inj h1
    exact item_listR pl.isList h0 (by omega) (by rw [hj]; simpa using ew) fin hs
  · have hj : (i + (its.toArray.size : Int)).toNat = j := by
      rw [seqIndex_neg (by omega) h4] at h1
      rw [List.size_toArray, ← hl]
      exact Option.some.inj h1
    exact subscriptTail_builtinR (x := w) pl.isList.typeIs slot_list_getitem.lookup
      (wpAny_getItem_list_neg (Q := fun r s' => r = w ∧ EP X pins σ Q r s') pl.isList (by omega) (by rw [List.size_toArray] <;> omega) (by omega) (by rw [hj]; simpa using ew) ⟨rfl, fin⟩) hs
theorem zf9 : IxR X (zf8 X.K) := by
  intro value slice pins s σ H x y v u Q I rx ry h hs
  obtain ⟨p, xs, i, z, rfl, rfl, hq, he, q⟩ := h
  cases rx
  obtain ⟨t, rfl⟩ := ry
  obtain ⟨its, r, pl, hz⟩ := I.tuple hq
  obtain ⟨j, h1, h2, h3, h4, h5⟩ := gO he
  obtain ⟨w, ew, rw'⟩ := r.get h2
  have hl := r.length
  have hn := XM
  have fin : EP X pins σ Q w s := ⟨z, H, I, rw', q⟩
  exact subscriptTail_builtinR (x := w) pl.typeIs slot_tuple_getitem.lookup
    (getItem_tuple (j := j) (Q := fun r s' => r = w ∧ EP X pins σ Q r s') pl (by omega) (by omega) (by rw [List.size_toArray, ← hl]; exact h1) (by simpa using ew) ⟨rfl, fin⟩) hs
theorem Inv.lst {pins : List (Addr × Obj)} {σ : St} {H : Hp} {s : Shared} {p : Addr} {xs : List V} (I : Inv X pins σ H s) (h : H p = some (.lst xs)) :
    ∃ (its : List Value) (n : Nat), Vals xs its ∧ s.heap.get? p = some { cls := .type "list", data := .seq its.toArray n } ∧ xs.length ≤ sizeLine := by
  obtain ⟨z, its, n, r, e⟩ := I.hok p _ h
  exact ⟨its, n, r, e, z⟩
theorem zga (lo hi : Option Int) (n : Nat) : (sliceBounds lo hi none n).1 = ((HT.sIx n 0 lo : Nat) : Int) ∧ (sliceBounds lo hi none n).2.1 = ((HT.sIx n n hi : Nat) : Int) ∧ (sliceBounds lo hi none n).2.2 = 1 := by
  refine ⟨?_, ?_, rfl⟩
  · cases lo with
    | none => simp [sliceBounds, HT.sIx]
    | some i =>
      simp only [sliceBounds, HT.sIx, Option.getD_none, show (1 : Int) > 0 by decide, if_true]
      by_cases h : i < 0
      · simp only [h, if_true] <;> omega
      · simp only [h, if_false] <;> omega
  · cases hi with
    | none => simp [sliceBounds, HT.sIx]
    | some i =>
      simp only [sliceBounds, HT.sIx, Option.getD_none, show (1 : Int) > 0 by decide, if_true]
      by_cases h : i < 0
      · simp only [h, if_true] <;> omega
      · simp only [h, if_false] <;> omega
theorem zgb (its : List Value) (lo hi : Option Int) : slicePick its.toArray lo hi none = ((its.drop (HT.sIx its.length 0 lo)).take (HT.sIx its.length its.length hi - HT.sIx its.length 0 lo)).toArray := by
  obtain ⟨h1, h2, h3⟩ := zga lo hi its.toArray.size
  unfold slicePick
  rw [h1, h2, h3]
  simp only [sliceRange_one, pick_run, List.size_toArray] <;> rfl
noncomputable def zgc (K : PySem.W.Frag) : V → Option Int → Option Int → Hp → VK → Prop := fun x lo hi H Q => ∃ a xs, x = .ref a ∧ SqL K H a xs ∧ ∀ p, H p = none → Q (.ref p) (zr H p (.lst (jO xs lo hi)))
theorem zgd : SlR X (zgc X.K) := by
  intro pins s σ H x v vl vu lo hi sl Q I rx hs pl pu h
  obtain ⟨a, xs, rfl, hx, q⟩ := h
  cases rx
  obtain ⟨its, r, ht, hz⟩ := I.list hx
  have hlen := r.length
  refine ⟨"list", _, slot_list_getitem.lookup, ht.isList.typeIs, ?_⟩
  refine wpAny_getItem_list_slice ht.isList hs pl pu .none (by simp) ?_ (by rw [List.size_toArray] <;> omega)
  rw [zgb, ← hlen]
  refine ⟨.ref s.heap.objs.size, _, I.laid (t' := s.toks) (o := .lst (jO xs lo hi)) (fun b ob q => Heap.get?_push_of_some _ q) (Nat.le_refl _) ?_, rfl, q _ (I.hok.fresh (Nat.le_refl _))⟩
  exact ⟨Nat.le_trans (zf4 xs lo hi) hz, _, 0, (r.drop (HT.sIx xs.length 0 lo)).take (HT.sIx xs.length xs.length hi - HT.sIx xs.length 0 lo), Heap.get?_push_size _ rfl⟩
theorem gT : CallR X (.builtin "len") (fun xs H Q => ∃ p ys, xs = [.ref p] ∧ (SqL X.K H p ys ∨ SqT X.K H p ys) ∧ Q (.int ys.length) H) := by
  intro pins s σ H xs us Q I r h
  obtain ⟨p, ys, rfl, hq, q⟩ := h
  obtain ⟨u, rfl, rx⟩ := wQ r
  cases rx
  have hn := XM
  rcases hq with hq | hq
  · obtain ⟨its, r', pl, hz⟩ := I.list hq
    have hlen := r'.length
    exact Calls.call_len_list pl.isList (by simp only [List.size_toArray] <;> omega) ⟨.int ys.length, H, I.tok _, ⟨s.toks + 1, by rw [List.size_toArray, hlen]⟩, q⟩
  · obtain ⟨its, r', pl, hz⟩ := I.tuple hq
    have hlen := r'.length
    exact len_tuple pl (by simp only [List.size_toArray] <;> omega) ⟨.int ys.length, H, I.tok _, ⟨s.toks + 1, by rw [List.size_toArray, hlen]⟩, q⟩
theorem CallR.or {f : Value} {r r' : List V → Hp → VK → Prop} (h : CallR X f r) (h' : CallR X f r') : CallR X f (fun xs H Q => r xs H Q ∨ r' xs H Q) := by
  intro pins s σ H xs us Q I rs q
  rcases q with q | q
  · exact h pins s σ H xs us Q I rs q
  · exact h' pins s σ H xs us Q I rs q
theorem gU : CallR X (.type "list") (fun xs H Q => ∃ p ys, xs = [.ref p] ∧ (SqL X.K H p ys ∨ SqT X.K H p ys) ∧ ∀ l, H l = none → Q (.ref l) (zr H l (.lst ys))) := by
  intro pins s σ H xs us Q I r h
  obtain ⟨p, ys, rfl, hq, q⟩ := h
  obtain ⟨u, rfl, rx⟩ := wQ r
  cases rx
  have fin : ∀ (its : List Value), Vals ys its → ys.length ≤ sizeLine → ∀ (h' : Heap) (c' : Nat), (∀ b o', s.heap.get? b = some o' → h'.get? b = some o') →
      h'.get? s.heap.objs.size = some { cls := .type "list", dict := none, data := .seq its.toArray c', slots := #[] } → EP X pins σ Q (.ref s.heap.objs.size) { s with heap := h' } := fun its r' hz h' c' kp e =>
    ⟨.ref s.heap.objs.size, _, I.laid (t' := s.toks) kp (Nat.le_refl _) (show ObjOk X.prog X.w _ h' _ (.lst ys) from ⟨hz, its, c', r', e⟩), rfl, q _ (I.hok.fresh (Nat.le_refl _))⟩
  rcases hq with hq | hq
  · obtain ⟨its, r', pl, hz⟩ := I.list hq
    have hlen := r'.length
    obtain ⟨o, ho, hc, n, hd⟩ := pl.isList
    exact call_list_seq p (.inl rfl) ho hc hd (fun h' c' kp e => fin its r' hz h' c' kp e) (by simp only [List.size_toArray] <;> omega)
  · obtain ⟨its, r', pl, hz⟩ := I.tuple hq
    have hlen := r'.length
    obtain ⟨o, ho, hc, n, hd⟩ := pl
    exact call_list_seq p (.inr rfl) ho hc hd (fun h' c' kp e => fin its r' hz h' c' kp e) (by simp only [List.size_toArray] <;> omega)
theorem gW : CallR X (.type "tuple") (fun xs H Q => ∃ p ys, xs = [.ref p] ∧ ((SqL X.K H p ys ∧ ∀ l, H l = none → Q (.ref l) (zr H l (.tup ys))) ∨ (SqT X.K H p ys ∧ Q (.ref p) H))) := by
  intro pins s σ H xs us Q I r h
  obtain ⟨p, ys, rfl, h⟩ := h
  obtain ⟨u, rfl, rx⟩ := wQ r
  cases rx
  rcases h with ⟨hq, q⟩ | ⟨hq, q⟩
  · obtain ⟨its, r', pl, hz⟩ := I.list hq
    have hlen := r'.length
    refine call_tuple_list pl.isList (fun h' kp => ?_) (by simp only [List.size_toArray] <;> omega)
    have I1 : Inv X pins σ H { s with heap := h' } := I.kept (t' := s.toks) kp
    have I2 : Inv X pins σ (zr H h'.objs.size (.tup ys)) { s with heap := h'.push { cls := .type "tuple", data := .seq its.toArray } } :=
      I1.laid (t' := s.toks) (fun b o e => Heap.get?_push_of_some _ e) (Nat.le_refl _) (show ObjOk X.prog X.w _ _ _ (.tup ys) from ⟨hz, its, r', IsTup.new _ _⟩)
    exact ⟨.ref h'.objs.size, _, I2, rfl, q _ (I1.hok.fresh (Nat.le_refl _))⟩
  · obtain ⟨its, r', pl, hz⟩ := I.tuple hq
    exact call_tuple_same pl ⟨.ref p, H, I, rfl, q⟩
noncomputable def JY (K : PySem.W.Frag) (T : String) (x : V) (H : Hp) : Prop := match x with
  | .str _ => T = "str"
  | .int _ => T = "int"
  | .ref p => (T = "list" ∧ ∃ xs, SqL K H p xs) ∨ (T = "tuple" ∧ ∃ o, K.lookup p = some o ∧ o.cls = .type "tuple" ∧ o.dict = none) ∨
      (T = "dict" ∧ ((∃ kvs, H p = some (.dK kvs)) ∨ ∃ kvs, H p = some (.dT kvs))) ∨ (T = "set" ∧ ∃ S n, H p = some (.set S n))
  | _ => False
theorem gX {pins : List (Addr × Obj)} {σ : St} {H : Hp} {s : Shared} {T : String} {x : V} {v : Value} (I : Inv X pins σ H s) (r : RelV x v) (ty : JY X.K T x H) :
    s.TypeIs v T ∧ ∀ a, v = .ref a → ∃ ob, s.heap.get? a = some ob ∧ ob.dict = none := by
  cases x with
  | str z =>
    obtain ⟨t, rfl⟩ := r
    cases (show T = "str" from ty)
    exact ⟨typeIs_str s z t, fun _ e => nomatch e⟩
  | int i =>
    obtain ⟨t, rfl⟩ := r
    cases (show T = "int" from ty)
    exact ⟨typeIs_int s i t, fun _ e => nomatch e⟩
  | ref p =>
    cases r
    rcases ty with ⟨rfl, xs, hq⟩ | ⟨rfl, o, hk, hc, hd⟩ | ⟨rfl, hk⟩ | ⟨rfl, S, n, hk⟩
    · obtain ⟨its, _, pl, _⟩ := I.list hq
      refine ⟨pl.isList.typeIs, fun a e => ?_⟩
      cases e
      obtain ⟨o, n, e, c, hd, _⟩ := pl
      exact ⟨o, e, hd⟩
    · refine ⟨⟨o, I.kIn p o hk, hc⟩, fun a e => ?_⟩
      cases e
      exact ⟨o, I.kIn _ o hk, hd⟩
    · have z : ∃ o, s.heap.get? p = some o ∧ o.ExactDict := by
        rcases hk with ⟨kvs, hk⟩ | ⟨kvs, hk⟩
        · obtain ⟨_, _, _, _, o, _, _, e, ex, _⟩ := I.hok p _ hk
          exact ⟨o, e, ex⟩
        · obtain ⟨_, _, _, _, o, _, _, e, ex, _⟩ := I.hok p _ hk
          exact ⟨o, e, ex⟩
      obtain ⟨o, e, ex⟩ := z
      refine ⟨⟨o, e, ex.1⟩, fun a e2 => ?_⟩
      cases e2
      exact ⟨o, e, ex.2.1⟩
    · obtain ⟨o, _, _, _, e, ex, _⟩ := I.hok p _ hk
      refine ⟨⟨o, e, ex.1⟩, fun a e2 => ?_⟩
      cases e2
      exact ⟨o, e, ex.2.1⟩
  | _ => exact False.elim ty
noncomputable def zge (K : PySem.W.Frag) (T : String) (r : V → List V → Hp → VK → Prop) (to : TE) : TE := fun σ H Q => to σ H fun x H1 => JY K T x H1 ∧ r x [] H1 Q
noncomputable def gY (K : PySem.W.Frag) (T : String) (r : V → List V → Hp → VK → Prop) (to : TE) (t : TA) : TE := fun σ H Q => to σ H fun x H1 => JY K T x H1 ∧ t σ H1 fun xs H2 => r x xs H2 Q
variable {o e : Expr} {es : List Expr} {to : TE} {t : TA} {name : Str} {apos cpos : Pos} {T id : String} {r : V → List V → Hp → VK → Prop}
theorem zgf (pa : PlainAttrs T) (slot : Slot T name id) (hty : typeOf (.builtin id) = pure (.type "method_descriptor")) (hm : MtR X id r) (ho : PE X o to)
    (hbase : attributeBase o name X.env (eval o X.env) = eval o X.env := by rfl) (hline : (apos.endLine == cpos.line) = true := by rfl) : PE X (.Call (.Attribute o name apos) [] [] cpos) (zge X.K T r to) := by
  intro pins s σ H Q I h
  refine wpAny_Call_method0_late hbase hline (zk (ho pins s σ H _ I h) fun v s1 ⟨x, H1, I1, r1, ty, q1⟩ => ?_)
  obtain ⟨h1, h2⟩ := gX I1 r1 ty
  exact ⟨T, id, pa, slot, hty, h1, h2, Calls.callWith_builtin rfl (PySem.evalArgs_none (hm pins s1 σ H1 x [] v [] Q I1 r1 .nil q1))⟩
theorem gZ (pa : PlainAttrs T) (slot : Slot T name id) (hty : typeOf (.builtin id) = pure (.type "method_descriptor")) (hm : MtR X id r) (ho : PE X o to) (ha : PA X (e :: es) t)
    (hbase : attributeBase o name X.env (eval o X.env) = eval o X.env := by rfl)
    (hfew : ((backTo cpos (starEach (e :: es) X.env)).all (fun x => !x.1) && (backToKw cpos (keywordEach [] X.env)).all (fun x => x.1.isSome)
      && decide ((e :: es).length + ([] : List Keyword).length + (if ([] : List Keyword).isEmpty then 0 else 1) < 30)) = true := by rfl)
    (hline : (apos.endLine == cpos.line) = true := by rfl) (hs : starEach (e :: es) X.env = (false, eval e X.env) :: starEach es X.env := by rfl) (hplain : (backTo cpos (starEach es X.env)).any (·.1) = false := by rfl) :
    PE X (.Call (.Attribute o name apos) (e :: es) [] cpos) (gY X.K T r to t) := by
  intro pins s σ H Q I h
  refine wpAny_Call_method_late hbase hfew hline rfl (zk (ho pins s σ H _ I h) fun v s1 ⟨x, H1, I1, r1, ty, q1⟩ => ?_)
  obtain ⟨h1, h2⟩ := gX I1 r1 ty
  refine ⟨T, id, pa, slot, hty, h1, h2, ?_⟩
  have hA := ha cpos pins s1 σ H1 _ I1 q1
  rw [hs] at hA ⊢
  refine Calls.callWith_builtin (by show (false || (backTo cpos (starEach es X.env)).any (·.1)) = false; rw [hplain] <;> rfl) (Calls.evalArgs_plain ?_)
  exact zk hA fun us s2 ⟨vs, H2, I2, r2, q2⟩ => hm pins s2 σ H2 x vs v us Q I2 r1 r2 q2
end
end L2
namespace L2
open PySem PySem.Spec PyProof.Rows
noncomputable def zgg (X : Cx) (id : String) (r : V → List V → Hp → VK → Prop) : Prop :=
  ∀ (pins : List (Addr × Obj)) (s : Shared) (σ : St) (H : Hp) (x : V) (xs : List V) (v : Value) (us : List Value) (Q : VK), Inv X pins σ H s → RelV x v → Vals xs us → r x xs H Q →
    wpAny (model X.prog X.w) X.A (call (.builtin id) (v :: us)) (EP X pins σ Q) X.xe s
theorem Vals.one : ∀ {x : V} {us : List Value}, Vals [x] us → ∃ u, us = [u] ∧ RelV x u
  | _, _, .cons r .nil => ⟨_, rfl, r⟩
theorem Vals.two : ∀ {x y : V} {us : List Value}, Vals [x, y] us → ∃ u v, us = [u, v] ∧ RelV x u ∧ RelV y v
  | _, _, _, .cons r (.cons q .nil) => ⟨_, _, rfl, r, q⟩
theorem Vals.zero : ∀ {us : List Value}, Vals [] us → us = []
  | _, .nil => rfl
theorem Vals.reverse {xs : List V} {us : List Value} (h : Vals xs us) : Vals xs.reverse us.reverse := by
  induction h with
  | nil => exact .nil
  | cons r t ih => rw [List.reverse_cons, List.reverse_cons]; exact Vals.append ih (.cons r .nil)
theorem Vals.rep {xs : List V} {us : List Value} (h : Vals xs us) : ∀ k : Nat, Vals (List.replicate k xs).flatten (List.replicate k us).flatten
  | 0 => .nil
  | k + 1 => by
    rw [List.replicate_succ, List.replicate_succ, List.flatten_cons, List.flatten_cons]
    exact Vals.append h (Vals.rep h k)
section
variable {X : Cx} {pins : List (Addr × Obj)} {σ : St} {H : Hp} {s : Shared} {l b : Addr} {xs ys zs : List V}
theorem Inv.lset {its its' : List Value} {n : Nat} {f : Array Value → Array Value} {t' : Nat} (I : Inv X pins σ H s) (hH : H l = some (.lst xs))
    (e : s.heap.get? l = some { cls := .type "list", data := .seq its.toArray n }) (hf : f its.toArray = its'.toArray) (hv : Vals ys its') (hz : ys.length ≤ sizeLine) :
    Inv X pins σ (zr H l (.lst ys)) { s with heap := s.heap.update l (Obj.mapSeq f), toks := t' } := by
  have q := PySem.IsL.update e f
  rw [hf] at q
  refine I.write (x := l) (e := l) (by rw [hH]; exact trivial) (.inl rfl) (fun b' u hb hu => (Heap.get?_update_other s.heap (Obj.mapSeq f) (Ne.symm hb)).trans hu) ⟨_, q⟩ ?_
  exact ⟨hz, its', _, hv, q⟩
theorem Inv.lnew {its : List Value} {t' : Nat} (I : Inv X pins σ H s) (hv : Vals ys its) (hz : ys.length ≤ sizeLine) :
    Inv X pins σ (zr H s.heap.objs.size (.lst ys)) { s with heap := s.heap.push { cls := .type "list", data := .seq its.toArray }, toks := t' } :=
  I.laid (fun _ _ q => Heap.get?_push_of_some _ q) (Nat.le_refl _) ⟨hz, its, 0, hv, Heap.get?_push_size _ rfl⟩
theorem Inv.fresh (I : Inv X pins σ H s) : H s.heap.objs.size = none := I.hok.fresh (Nat.le_refl _)
theorem Inv.lstM (I : Inv X pins σ H s) (hH : H l = some (.lst xs)) : xs.length ≤ sizeLine ∧ ∃ (its : List Value) (n : Nat), Vals xs its ∧ xs.length = its.length ∧ s.heap.get? l = some { cls := .type "list", data := .seq its.toArray n } := by
  obtain ⟨z, its, n, r, e⟩ := I.hok l _ hH
  exact ⟨z, its, n, r, r.length, e⟩
end
section
variable {X : Cx}
noncomputable def zaa : V → List V → Hp → VK → Prop := fun x vs H Q => ∃ l xs y, x = .ref l ∧ vs = [y] ∧ H l = some (.lst xs) ∧ xs.length < sizeLine ∧ Q .non (zr H l (.lst (xs ++ [y])))
theorem XQ : zgg X "list.append" zaa := by
  intro pins s σ H x vs v us Q I rx rv h
  obtain ⟨l, xs, y, rfl, rfl, hH, hz, q⟩ := h
  cases rx
  obtain ⟨u, rfl, ru⟩ := rv.one
  obtain ⟨z, its, n, r, hl, e⟩ := I.lstM hH
  refine call_meets F.slot_list_append ⟨_, e, rfl⟩ F.entry_list_append (F.args_list_append_2 _ _) (PySem.list_append l its.toArray n u (by rw [List.size_toArray]; omega)) ⟨e, ?_⟩
  refine ⟨.non, _, I.lset (its' := its ++ [u]) hH e (by simp) (r.append (.cons ru .nil)) ?_, rfl, q⟩
  rw [List.length_append, List.length_singleton]
  omega
end
end L2
namespace L2
open PySem PySem.Spec PyProof.Rows
section
variable {κ : Type} [DecidableEq κ]
noncomputable def yh (kvs : List (κ × V)) (k : κ) : Option V := (kvs.find? fun kv => decide (kv.1 = k)).map (·.2)
noncomputable def yD (kvs : List (κ × V)) (k : κ) (v : V) : List (κ × V) :=
  if (kvs.any fun kv => decide (kv.1 = k)) = true then kvs.map (fun kv => if kv.1 = k then (kv.1, v) else kv) else kvs ++ [(k, v)]
noncomputable def zab (kvs : List (κ × V)) (k : κ) : List (κ × V) := kvs.filter fun kv => decide (kv.1 ≠ k)
theorem jP {p : κ × V} {r : List (κ × V)} {k : κ} (e : p.1 = k) : yh (p :: r) k = some p.2 := by simp [yh, List.find?_cons, e]
theorem jQ {p : κ × V} {r : List (κ × V)} {k : κ} (e : ¬ p.1 = k) : yh (p :: r) k = yh r k := by simp [yh, List.find?_cons, e]
theorem ZQ (k : κ) : ∀ kvs : List (κ × V), (kvs.any fun kv => decide (kv.1 = k)) = (yh kvs k).isSome
  | [] => rfl
  | p :: r => by
    rw [List.any_cons]
    by_cases e : p.1 = k
    · simp only [jP e, decide_eq_true e, Bool.true_or, Option.isSome_some]
    · rw [jQ e, decide_eq_false e, Bool.false_or]; exact ZQ k r
theorem zac (kvs : List (κ × V)) (k : κ) (v : V) : (yD kvs k v).length ≤ kvs.length + 1 := by
  unfold yD
  split
  · rw [List.length_map]; omega
  · rw [List.length_append, List.length_cons, List.length_nil]; omega
theorem zad {kvs : List (κ × V)} {k : κ} (v : V) (h : yh kvs k = none) : yD kvs k v = kvs ++ [(k, v)] := by
  unfold yD
  rw [ZQ, h]
  exact if_neg (by decide)
theorem RelO.isSome_eq {o : Option V} {u : Option Value} (r : RelO o u) : o.isSome = u.isSome := by
  cases o with
  | none => cases u with
    | none => rfl
    | some _ => exact (show False from r).elim
  | some _ => cases u with
    | none => exact (show False from r).elim
    | some _ => rfl
theorem RelO.getD {o : Option V} {u : Option Value} {d : V} {d' : Value} (r : RelO o u) (rd : RelV d d') : RelV (o.getD d) (u.getD d') := by
  cases o with
  | none => cases u with
    | none => exact rd
    | some _ => exact (show False from r).elim
  | some _ => cases u with
    | none => exact (show False from r).elim
    | some _ => exact r
theorem KV.val {kvs : List (κ × V)} {vs : List (κ × Value)} (r : KV kvs vs) (k : κ) : RelO (yh kvs k) (valueAt vs k) := by
  unfold KV at r
  induction r with
  | nil => exact True.intro
  | @cons p q ps qs h t ih =>
    obtain ⟨h1, h2⟩ := h
    by_cases e : p.1 = k
    · have e' : q.1 = k := h1.symm.trans e
      have b : valueAt (q :: qs) k = some q.2 := by simp [valueAt, List.find?_cons, e']
      rw [jP e, b]; exact h2
    · have e' : ¬ q.1 = k := fun z => e (h1.trans z)
      have b : valueAt (q :: qs) k = valueAt qs k := by simp [valueAt, List.find?_cons, e']
      rw [jQ e, b]; exact ih
theorem KV.any {kvs : List (κ × V)} {vs : List (κ × Value)} (r : KV kvs vs) (k : κ) : (kvs.any fun kv => decide (kv.1 = k)) = vs.any fun kv => decide (kv.1 = k) := by
  unfold KV at r
  induction r with
  | nil => rfl
  | cons h t ih => rw [List.any_cons, List.any_cons, ih, h.1]
theorem KV.repl {kvs : List (κ × V)} {vs : List (κ × Value)} (r : KV kvs vs) (k : κ) {y : V} {u : Value} (ry : RelV y u) :
    KV (kvs.map fun kv => if kv.1 = k then (kv.1, y) else kv) (vs.map fun kv => if kv.1 = k then (kv.1, u) else kv) := by
  unfold KV at r ⊢
  induction r with
  | nil => exact .nil
  | @cons p q ps qs h t ih =>
    rw [List.map_cons, List.map_cons]
    refine .cons ?_ ih
    obtain ⟨h1, h2⟩ := h
    by_cases e : p.1 = k
    · rw [if_pos e, if_pos (h1.symm.trans e)]; exact ⟨h1, ry⟩
    · rw [if_neg e, if_neg (fun z => e (h1.trans z))]; exact ⟨h1, h2⟩
theorem KV.put {kvs : List (κ × V)} {vs : List (κ × Value)} (r : KV kvs vs) (k : κ) {y : V} {u : Value} (ry : RelV y u) : KV (yD kvs k y) (stored vs k u) := by
  unfold yD stored
  rw [r.any k]
  by_cases e : (vs.any fun kv => decide (kv.1 = k)) = true
  · rw [if_pos e, if_pos e]; exact r.repl k ry
  · rw [if_neg e, if_neg e]; exact Paired.snoc r ⟨rfl, ry⟩
theorem KV.drop {kvs : List (κ × V)} {vs : List (κ × Value)} (r : KV kvs vs) (k : κ) : KV (zab kvs k) (without vs k) := by
  unfold KV at r ⊢
  unfold zab without
  induction r with
  | nil => exact .nil
  | @cons p q ps qs h t ih =>
    obtain ⟨h1, h2⟩ := h
    rw [List.filter_cons, List.filter_cons]
    by_cases e : p.1 = k
    · have a : ¬ decide (p.1 ≠ k) = true := by simp [e]
      have b : ¬ decide (q.1 ≠ k) = true := by simp [h1.symm.trans e]
      rw [if_neg a, if_neg b]; exact ih
    · have e' : ¬ q.1 = k := fun z => e (h1.trans z)
      have a : decide (p.1 ≠ k) = true := by simp [e]
      have b : decide (q.1 ≠ k) = true := by simp [e']
      rw [if_pos a, if_pos b]; exact .cons ⟨h1, h2⟩ ih
theorem KV.keys {kvs : List (κ × V)} {vs : List (κ × Value)} (r : KV kvs vs) : kvs.map (·.1) = vs.map (·.1) := by
  unfold KV at r
  induction r with
  | nil => rfl
  | cons h t ih => rw [List.map_cons, List.map_cons, ih, h.1]
theorem KV.length {kvs : List (κ × V)} {vs : List (κ × Value)} (r : KV kvs vs) : kvs.length = vs.length := Paired.length r
end
theorem ZR {P : Program} {w : World} {k : zn} {u : Value} (r : RelV (kV k) u) : (yZ P w).is k u = true := by
  cases k with
  | inl i => obtain ⟨t, e⟩ := (show ∃ t, u = Value.int i t from r); subst e; exact zeG P w i t
  | inr x => obtain ⟨t, e⟩ := (show ∃ t, u = Value.str x t from r); subst e; exact zeH P w x t
theorem zae {P : Program} {w : World} : ∀ {ks : List zn} {us : List Value}, Vals (ks.map kV) us → ItemsAre (yZ P w) ks us
  | [], _, r => by rw [List.map_nil] at r; cases r; exact .nil
  | k :: ks, _, r => by
    rw [List.map_cons] at r
    cases r with
    | cons h t => exact .cons (ZR h) (zae t)
noncomputable abbrev KT (H : Hp) : List (List zn × V) → List (List zn × Addr × Value) → Prop := Paired fun p q => p.1 = q.1 ∧ H q.2.1 = some (.tup (p.1.map kV)) ∧ RelV p.2 q.2.2
theorem KT.val {H : Hp} {kvs : List (List zn × V)} {xs : List (List zn × Addr × Value)} (r : KT H kvs xs) (k : List zn) : RelO (yh kvs k) ((atKey xs k).map (·.2)) := by
  induction r with
  | nil => exact True.intro
  | @cons p q ps qs h t ih =>
    obtain ⟨h1, _, h2⟩ := h
    by_cases e : p.1 = k
    · have e' : q.1 = k := h1.symm.trans e
      have b : atKey (q :: qs) k = some q.2 := by simp [atKey, List.find?_cons, e']
      rw [jP e, b]; exact h2
    · have e' : ¬ q.1 = k := fun z => e (h1.trans z)
      have b : atKey (q :: qs) k = atKey qs k := by simp [atKey, List.find?_cons, e']
      rw [jQ e, b]; exact ih
theorem KT.repl {H : Hp} {kvs : List (List zn × V)} {xs : List (List zn × Addr × Value)} (r : KT H kvs xs) (k : List zn) {y : V} {u : Value} (ry : RelV y u) :
    KT H (kvs.map fun kv => if kv.1 = k then (kv.1, y) else kv) (xs.map (putAt k u)) := by
  induction r with
  | nil => exact .nil
  | @cons p q ps qs h t ih =>
    rw [List.map_cons, List.map_cons]
    refine .cons ?_ ih
    obtain ⟨h1, h2, h3⟩ := h
    unfold putAt
    by_cases e : p.1 = k
    · rw [if_pos e, if_pos (h1.symm.trans e)]; exact ⟨h1, h2, ry⟩
    · rw [if_neg e, if_neg (fun z => e (h1.trans z))]; exact ⟨h1, h2, h3⟩
theorem KT.put {H : Hp} {kvs : List (List zn × V)} {xs : List (List zn × Addr × Value)} (r : KT H kvs xs) (k : List zn) {b : Addr} {y : V} {u : Value} (hb : H b = some (.tup (k.map kV))) (ry : RelV y u) :
    KT H (yD kvs k y) (storedH xs k b u) := by
  have e : (kvs.any fun kv => decide (kv.1 = k)) = (atKey xs k).isSome := by
    rw [ZQ, (r.val k).isSome_eq, Option.isSome_map]
  unfold yD storedH
  rw [e]
  by_cases q : (atKey xs k).isSome = true
  · rw [if_pos q, if_pos q]; exact r.repl k ry
  · rw [if_neg q, if_neg q]; exact Paired.snoc r ⟨rfl, hb, ry⟩
theorem KT.keeps {H H' : Hp} {kvs : List (List zn × V)} {xs : List (List zn × Addr × Value)} (r : KT H kvs xs) (ht : ∀ b ys, H b = some (.tup ys) → H' b = some (.tup ys)) : KT H' kvs xs :=
  Paired.mapP r fun _ _ z => ⟨z.1, ht _ _ z.2.1, z.2.2⟩
section
variable {P : Program} {w : World} {H : Hp} {h : Heap} {a : Addr}
theorem zaf {u : HO} (ok : HOk P w H h) (e : Rd H a u) : ObjOk P w H h a u := e.ok ok
theorem je {kvs : List (zn × V)} (ok : HOk P w H h) (e : Rd H a (.dK kvs)) : kvs.length ≤ sizeLine ∧ (a == sysModules) = false ∧ ∃ vs, KV kvs vs ∧ h.DictOf (yZ P w) a vs :=
  show ObjOk P w H h a (.dK kvs) from zaf ok e
theorem zgh {kvs : List (zn × V)} (ok : HOk P w H h) (e : H a = some (.dK kvs)) : kvs.length ≤ sizeLine ∧ (a == sysModules) = false ∧ ∃ vs, KV kvs vs ∧ h.DictOf (yZ P w) a vs := je ok (.inl e)
theorem ZS {ks : List zn} (ok : HOk P w H h) (e : H a = some (.tup (ks.map kV))) : (tupleKind (yZ P w)).is h ks a := by
  obtain ⟨_, its, r, o, h1, h2, n, h3⟩ := (show ObjOk P w H h a (.tup (ks.map kV)) from ok a _ e)
  exact ⟨o, its.toArray, n, h1, h2, h3, by simpa using zae r⟩
theorem jf {kvs : List (List zn × V)} (ok : HOk P w H h) (e : Rd H a (.dT kvs)) : kvs.length ≤ sizeLine ∧ (a == sysModules) = false ∧
    ∃ xs, KT H kvs xs ∧ h.DictOfH (tupleKind (yZ P w)) a xs := by
  obtain ⟨z, y, xs, r, o, es, ep, h1, h2, h3, h4, h5⟩ := (show ObjOk P w H h a (.dT kvs) from zaf ok e)
  refine ⟨z, y, xs, r, o, es, ep, h1, h2, h3, h4, fun x hx => ?_, h5⟩
  have all : ∀ {l : List (List zn × V)} {m : List (List zn × Addr × Value)}, KT H l m → ∀ x ∈ m, (tupleKind (yZ P w)).is h x.1 x.2.1 := by
    intro l m q
    induction q with
    | nil => intro x hx; exact nomatch hx
    | @cons p q ps qs hq t ih =>
      intro x hx
      rcases List.mem_cons.mp hx with e | hx
      · subst e
        exact ZS ok (by rw [← hq.1]; exact hq.2.1)
      · exact ih x hx
  exact all r x hx
theorem zgi {kvs : List (List zn × V)} (ok : HOk P w H h) (e : H a = some (.dT kvs)) : kvs.length ≤ sizeLine ∧ (a == sysModules) = false ∧
    ∃ xs, KT H kvs xs ∧ h.DictOfH (tupleKind (yZ P w)) a xs := jf ok (.inl e)
end
noncomputable def DGet (H : Hp) (a : Addr) (y : V) (r : Option V) : Prop :=
  (∃ kvs k, Rd H a (.dK kvs) ∧ y = kV k ∧ r = yh kvs k) ∨ ∃ kvs k b, Rd H a (.dT kvs) ∧ y = .ref b ∧ H b = some (.tup (k.map kV)) ∧ r = yh kvs k
noncomputable def DPut (H : Hp) (a : Addr) (y v : V) (H' : Hp) : Prop :=
  (∃ kvs k, H a = some (.dK kvs) ∧ y = kV k ∧ kvs.length < sizeLine ∧ H' = zr H a (.dK (yD kvs k v))) ∨
  ∃ kvs k b, H a = some (.dT kvs) ∧ y = .ref b ∧ H b = some (.tup (k.map kV)) ∧ kvs.length < sizeLine ∧ H' = zr H a (.dT (yD kvs k v))
theorem DGet.k {H : Hp} {a : Addr} {kvs : List (zn × V)} {k : zn} (e : H a = some (.dK kvs)) : DGet H a (kV k) (yh kvs k) := .inl ⟨kvs, k, .inl e, rfl, rfl⟩
theorem DGet.t {H : Hp} {a b : Addr} {kvs : List (List zn × V)} {k : List zn} (e : H a = some (.dT kvs)) (eb : H b = some (.tup (k.map kV))) : DGet H a (.ref b) (yh kvs k) := .inr ⟨kvs, k, b, .inl e, rfl, eb, rfl⟩
theorem DPut.k {H : Hp} {a : Addr} {kvs : List (zn × V)} {k : zn} {v : V} (e : H a = some (.dK kvs)) (hl : kvs.length < sizeLine) : DPut H a (kV k) v (zr H a (.dK (yD kvs k v))) := .inl ⟨kvs, k, e, rfl, hl, rfl⟩
theorem DPut.t {H : Hp} {a b : Addr} {kvs : List (List zn × V)} {k : List zn} {v : V} (e : H a = some (.dT kvs)) (eb : H b = some (.tup (k.map kV))) (hl : kvs.length < sizeLine) :
    DPut H a (.ref b) v (zr H a (.dT (yD kvs k v))) := .inr ⟨kvs, k, b, e, rfl, eb, hl, rfl⟩
section
variable {X : Cx} {pins : List (Addr × Obj)} {σ : St} {H : Hp} {s : Shared} {a : Addr} {y v : V} {u r : Value} {o : Option V} {A : Around} {E : Value → Shared → Prop}
theorem Inv.big (I : Inv X pins σ H s) : sysModules < s.heap.objs.size := by
  have h : mainGlobals < s.heap.objs.size := (I.mod.glob.keeps I.bk).lt
  exact Nat.lt_trans (by decide) h
theorem zag {Q : Value → Shared → Prop} (hu : A.units + 1 < cLine) (I : Inv X pins σ H s) (g : DGet H a y (some v)) (ry : RelV y u) (h : ∀ w' s', Inv X pins σ H s' → RelV v w' → Q w' s') :
    wpAny (model X.prog X.w) A (getItem (.ref a) u) Q E s := by
  rcases g with ⟨kvs, k, e, ey, l⟩ | ⟨kvs, k, b, e, ey, eb, l⟩
  · subst ey
    obtain ⟨z, hd, vs, rel, dd⟩ := je I.hok e
    obtain ⟨w', hw, rw'⟩ := RelO.some_of (v := v) (o := valueAt vs k) (by rw [l]; exact rel.val k)
    exact wpAny_getItem_of (ZR ry) dd.mapOf hw (h w' _ (I.tok _) rw')
  · subst ey
    cases (show u = Value.ref b from ry)
    obtain ⟨z, hd, xs, rel, dd⟩ := jf I.hok e
    obtain ⟨w', hw, rw'⟩ := RelO.some_of (v := v) (o := (atKey xs k).map (·.2)) (by rw [l]; exact rel.val k)
    obtain ⟨p, hp, hp2⟩ := jo2.mp hw
    refine wpAny_getItem_heap (tupleKind_room_in1 hu) (ZS I.hok eb) dd hp ?_
    rw [hp2]
    exact h w' _ (I.tok _) rw'
theorem JZ {Q : Value → Shared → Prop} (hu : A.units + 1 < cLine) (I : Inv X pins σ H s) (g : DGet H a y o) (ry : RelV y u) (h : ∀ s', Inv X pins σ H s' → Q (.bool (!o.isSome)) s') :
    wpAny (model X.prog X.w) A (compareOp .NotIn u (.ref a)) Q E s := by
  rcases g with ⟨kvs, k, e, ey, l⟩ | ⟨kvs, k, b, e, ey, eb, l⟩
  · subst ey
    obtain ⟨z, hd, vs, rel, dd⟩ := je I.hok e
    refine wpAny_notIn_of (ZR ry) hd dd.mapOf ?_
    rw [← (rel.val k).isSome_eq, ← l]
    exact h _ (I.tok _)
  · subst ey
    cases (show u = Value.ref b from ry)
    obtain ⟨z, hd, xs, rel, dd⟩ := jf I.hok e
    refine wpAny_notIn_heap (tupleKind_room_in1 hu) (ZS I.hok eb) hd dd ?_
    have q := (rel.val k).isSome_eq
    rw [Option.isSome_map] at q
    rw [← q, ← l]
    exact h _ (I.tok _)
theorem zah {h' : Heap} {t' : Nat} {ob : HO} (I : Inv X pins σ H s) (mu : ZI (H a)) (hs : Heap.SameBut a s.heap h') (he : ∃ q, h'.get? a = some q) (new : ObjOk X.prog X.w (zr H a ob) h' a ob) :
    Inv X pins σ (zr H a ob) { s with heap := h', toks := t' } :=
  I.write (x := a) (e := a) mu (.inl rfl) (fun b q hb z => (hs.2 b hb).trans z) he new
theorem zgj {P : Program} {w : World} {H' : Hp} {h' : Heap} {kvs : List (zn × V)} {vs : List (zn × Value)} (z : kvs.length ≤ sizeLine) (hd : (a == sysModules) = false) (rel : KV kvs vs) (dd : h'.DictOf (yZ P w) a vs) :
    ObjOk P w H' h' a (.dK kvs) := ⟨z, hd, vs, rel, dd⟩
theorem zgk {H' : Hp} {Q : Unit → Shared → Prop} (hu : A.units + 1 < cLine) (I : Inv X pins σ H s) (g : DPut H a y v H') (ry : RelV y u) (rv : RelV v r) (h : ∀ s', Inv X pins σ H' s' → Q () s') :
    wpAny (model X.prog X.w) A (setItem (.ref a) u r) Q E s := by
  rcases g with ⟨kvs, k, e, ey, l, eH⟩ | ⟨kvs, k, b, e, ey, eb, l, eH⟩
  · subst ey eH
    obtain ⟨z, hd, vs, rel, dd⟩ := zgh I.hok e
    have hz : vs.length ≤ sizeLine := by rw [← rel.length]; exact z
    have hl : (yD kvs k v).length ≤ sizeLine := by have := zac kvs k v; omega
    refine wpAny_setItem_pairs (hsz := hz) (ZR ry) dd fun h' dd' hs => h _ ?_
    have he : ∃ q, h'.get? a = some q := let ⟨q, _, _, hq, _⟩ := dd'; ⟨q, hq⟩
    exact zah I (by rw [e]; exact True.intro) hs he (zgj hl hd (rel.put k rv) dd')
  · subst ey eH
    cases (show u = Value.ref b from ry)
    obtain ⟨z, hd, xs, rel, dd⟩ := zgi I.hok e
    have hz : xs.length ≤ sizeLine := by rw [← Paired.length rel]; exact z
    have hl : (yD kvs k v).length ≤ sizeLine := by have := zac kvs k v; omega
    refine wpAny_setItem_heap (hsz := hz) (tupleKind_room_in1 hu) (ZS I.hok eb) dd fun h' dd' hs => h _ ?_
    obtain ⟨q, es, ep, hq, h2, h3, h4, _, h5⟩ := dd'
    refine zah I (by rw [e]; exact True.intro) hs ⟨q, hq⟩ ⟨hl, hd, _, (rel.put k eb rv).keeps fun c ys ec => ?_, q, es, ep, hq, h2, h3, h4, h5⟩
    rw [zw (XA ec e (fun z => nomatch z))]
    exact ec
end
noncomputable def zai (i : Expr) : Prop := ∀ ov iv, subscripted i false ov iv = operate [ov, iv] (getItem ov iv)
theorem zgl {prog : Program} {w : World} {A : Around} {E : Value → Shared → Prop} {s : Shared} {env : Env} {value slice : Expr} {pos : Pos} {T id : String} {Q : Value → Shared → Prop}
    (hl : typeLookup (.type T) "__getitem__" = pure (some (.builtin id))) (hs : zai slice)
    (h : wpAny (model prog w) A (eval value env) (fun o s₁ => wpAny (model prog w) A (eval slice env) (fun i s₂ => s₂.TypeIs o T ∧ wpAny (model prog w) A (getItem o i) Q E s₂) E s₁) E s) :
    wpAny (model prog w) A (eval (.Subscript value slice pos) env) Q E s := by
  refine Subscript_ (wpAny_mono h (fun o s₁ h₁ => wpAny_mono h₁ (fun i s₂ h₂ => ?_) fun _ _ x => x) fun _ _ x => x)
  obtain ⟨hT, h₂⟩ := h₂
  unfold subscriptTail
  refine wpAny_bind ?_
  rw [getitemInPython_of_ne hT.not_modules]
  refine wpAny_bind (wpAny_specialOf hT hl ?_)
  have fin : wpAny (model prog w) A (subscripted slice false o i) (fun r s₃ => wpAny (model prog w) A (letTemporaryGo value o r >>= fun _ => pure r) Q E s₃) E s₂ := by
    rw [hs o i]
    exact wpAny_operating (wpAny_mono h₂ (fun r s₃ h₃ => wpAny_bind (wpAny_letTemporaryGo (wpAny_pure h₃))) fun _ _ x => x)
  first
    | exact wpAny_pure (wpAny_bind fin)
    | exact wpAny_bind (wpAny_pure (wpAny_bind fin))
    | exact wpAny_bind fin
theorem zaj {X : Cx} {pins : List (Addr × Obj)} {σ : St} {H : Hp} {s : Shared} {a : Addr} {y : V} {o : Option V} (I : Inv X pins σ H s) (g : DGet H a y o) : s.TypeIs (.ref a) "dict" := by
  rcases g with ⟨kvs, k, e, _, _⟩ | ⟨kvs, k, b, e, _, _, _⟩
  · obtain ⟨_, _, vs, _, dd⟩ := je I.hok e
    exact dd.typeIs
  · obtain ⟨_, _, xs, _, dd⟩ := jf I.hok e
    exact dd.typeIs
noncomputable def Qa (td ty : TE) : TE := fun σ H Q => td σ H fun x H1 => ty σ H1 fun y H2 => ∃ a v, x = .ref a ∧ DGet H2 a y (some v) ∧ Q v H2
noncomputable def zak (ty td : TE) : TE := fun σ H Q => ty σ H fun y H1 => td σ H1 fun x H2 => ∃ a o, x = .ref a ∧ DGet H2 a y o ∧ Q (.bl (!o.isSome)) H2
noncomputable def XR (td ty tv : TE) : TS := fun D σ H => tv σ H fun v H1 => td σ H1 fun x H2 => ty σ H2 fun y H3 => ∃ a H4, x = .ref a ∧ DPut H3 a y v H4 ∧ D.nx σ H4
section
variable {X : Cx} {o i e value : Expr} {pos pos' tpos : Pos} {td ty tv : TE}
theorem zal (hu : X.A.units + 1 < cLine) (ho : PE X o td) (hi : PE X i ty) (hs : zai i) : PE X (.Subscript o i pos) (Qa td ty) := by
  intro pins s σ H Q I h
  refine zgl PySem.F.slot_dict_getitem.lookup hs (zk (ho pins s σ H _ I h) fun u s1 ⟨x, H1, I1, rx, q1⟩ => zk (hi pins s1 σ H1 _ I1 q1) fun iv s2 ⟨y, H2, I2, ry, a, v, ex, g, q2⟩ => ?_)
  subst ex
  obtain rfl : u = Value.ref a := rx
  exact ⟨zaj I2 g, zag hu I2 g ry fun w' s3 I3 rw' => ⟨v, H2, I3, rw', q2⟩⟩
theorem zgm (hu : X.A.units + 1 < cLine) (hi : PE X i ty) (ho : PE X o td) : PC X .NotIn i o (zak ty td) := by
  intro pins s σ H Q I h
  refine zk (hi pins s σ H _ I h) fun iv s1 ⟨y, H1, I1, ry, q1⟩ => zk (ho pins s1 σ H1 _ I1 q1) fun u s2 ⟨x, H2, I2, rx, a, ov, ex, g, q2⟩ => ?_
  subst ex
  obtain rfl : u = Value.ref a := rx
  exact JZ hu I2 g ry fun s3 I3 => ⟨.bl (!ov.isSome), H2, I3, rfl, q2⟩
theorem Qb (hu : X.A.units + 1 < cLine) (ho : PE X o td) (hi : PE X i ty) (hv : PE X value tv) (hs : swapsWith value (some (.Subscript o i pos')) pos.line X.env = pure false) :
    PS X (.Assign [.Subscript o i pos'] value pos) (XR td ty tv) := by
  intro pins s σ H D I h
  refine wpAny_Assign_Subscript (zk (hv pins s σ H _ I h) fun r s1 ⟨v, H1, I1, rv, q1⟩ => zk (ho pins s1 σ H1 _ I1 q1) fun u s2 ⟨x, H2, I2, rx, q2⟩ => zk (hi pins s2 σ H2 _ I2 q2) fun iv s3 ⟨y, H3, I3, ry, a, H4, ex, g, q3⟩ => ?_) hs
  subst ex
  obtain rfl : u = Value.ref a := rx
  exact zgk hu I3 g ry rv fun s4 I4 => ⟨σ, H4, I4, q3⟩
end
theorem zgn {P : Program} {w : World} {H : Hp} (h : Heap) (hb : sysModules < h.objs.size) : ObjOk P w H (h.push { cls := .type "dict", data := .dict #[] }) h.objs.size (.dK []) :=
  ⟨Nat.zero_le _, beq_eq_false_iff_ne.mpr (Ne.symm (Nat.ne_of_lt hb)), [], .nil, Heap.DictOf.new h⟩
theorem zgo {P : Program} {w : World} {H : Hp} (h : Heap) (hb : sysModules < h.objs.size) : ObjOk P w H (h.push { cls := .type "dict", data := .dict #[] }) h.objs.size (.dT []) :=
  ⟨Nat.zero_le _, beq_eq_false_iff_ne.mpr (Ne.symm (Nat.ne_of_lt hb)), [], .nil, _, #[], 0, Heap.get?_push_size _ rfl, ⟨rfl, rfl, rfl⟩, rfl, rfl, List.nodup_nil⟩
noncomputable def zam : TE := fun _ H Q => ∀ p, H p = none → Q (.ref p) (zr H p (.dK []))
noncomputable def zgp : TE := fun _ H Q => ∀ p, H p = none → Q (.ref p) (zr H p (.dT []))
section
variable {X : Cx} {pos : Pos}
theorem zan : PE X (.Dict [] [] pos) zam := fun pins s σ H Q I h =>
  wpAny_Dict_empty ⟨.ref s.heap.objs.size, _, I.laid (a := s.heap.objs.size) (o := .dK []) (t' := s.toks) (fun _ _ q => Heap.get?_push_of_some _ q) (Nat.le_refl _) (zgn s.heap I.big), rfl, h _ (I.hok.fresh (Nat.le_refl _))⟩
theorem zgq : PE X (.Dict [] [] pos) zgp := fun pins s σ H Q I h =>
  wpAny_Dict_empty ⟨.ref s.heap.objs.size, _, I.laid (a := s.heap.objs.size) (o := .dT []) (t' := s.toks) (fun _ _ q => Heap.get?_push_of_some _ q) (Nat.le_refl _) (zgo s.heap I.big), rfl, h _ (I.hok.fresh (Nat.le_refl _))⟩
end
noncomputable def zgr (kvs more : List (zn × V)) : List (zn × V) := more.foldl (fun acc kv => yD acc kv.1 kv.2) kvs
theorem KV.merge : ∀ {more : List (zn × V)} {rs : List (zn × Value)} {kvs : List (zn × V)} {vs : List (zn × Value)}, KV more rs → KV kvs vs → KV (zgr kvs more) (merged vs rs) := by
  intro more rs kvs vs r
  unfold KV at r
  induction r generalizing kvs vs with
  | nil => intro q; exact q
  | @cons p q ps qs h t ih =>
    intro r0
    have e : KV (yD kvs p.1 p.2) (stored vs q.1 q.2) := by
      have := r0.put p.1 h.2
      rw [← h.1]; exact this
    exact ih e
structure M2 (X : Cx) (o : Expr) (m : Str) (apos : Pos) (e f : Expr) (cpos : Pos) : Prop where
  base : attributeBase o m X.env (eval o X.env) = eval o X.env
  few : ((backTo cpos (starEach [e, f] X.env)).all (fun x => !x.1) && (backToKw cpos (keywordEach [] X.env)).all (fun x => x.1.isSome)
    && decide (([e, f] : List Expr).length + ([] : List Keyword).length + (if ([] : List Keyword).isEmpty then 0 else 1) < 30)) = true
  line : (apos.endLine == cpos.line) = true
  trees : backTo cpos (starEach [e, f] X.env) = [(false, eval e X.env), (false, eval f X.env)]
noncomputable def zao (H : Hp) (a : Addr) : Prop := (∃ kvs, Rd H a (.dK kvs)) ∨ ∃ kvs, Rd H a (.dT kvs)
theorem zgs {X : Cx} {pins : List (Addr × Obj)} {σ : St} {H : Hp} {s : Shared} {a : Addr} (I : Inv X pins σ H s) (d : zao H a) :
    s.TypeIs (.ref a) "dict" ∧ (∀ b, Value.ref a = .ref b → ∃ ob, s.heap.get? b = some ob ∧ ob.dict = none) ∧ (a == sysModules) = false := by
  rcases d with ⟨kvs, e⟩ | ⟨kvs, e⟩
  · obtain ⟨_, hd, vs, _, dd⟩ := je I.hok e
    refine ⟨dd.typeIs, fun b q => ?_, hd⟩
    cases q
    obtain ⟨ob, _, _, h1, h2, _⟩ := dd
    exact ⟨ob, h1, h2.2.1⟩
  · obtain ⟨_, hd, xs, _, dd⟩ := jf I.hok e
    refine ⟨dd.typeIs, fun b q => ?_, hd⟩
    cases q
    obtain ⟨ob, _, _, h1, h2, _⟩ := dd
    exact ⟨ob, h1, h2.2.1⟩
section
variable {X : Cx} {pins : List (Addr × Obj)} {σ : St} {H : Hp} {s : Shared} {a : Addr} {y d : V} {u r : Value} {o : Option V} {A : Around} {E : Value → Shared → Prop}
theorem zgt {Q : Value → Shared → Prop} (hu : A.units + 1 < cLine) (I : Inv X pins σ H s) (g : DGet H a y o) (ry : RelV y u) (rd : RelV d r) (h : ∀ w' s', Inv X pins σ H s' → RelV (o.getD d) w' → Q w' s') :
    wpAny (model X.prog X.w) A (call (.builtin "dict.get") [.ref a, u, r]) Q E s := by
  rcases g with ⟨kvs, k, e, ey, l⟩ | ⟨kvs, k, b, e, ey, eb, l⟩
  · subst ey
    obtain ⟨z, hd, vs, rel, dd⟩ := je I.hok e
    refine call_meetsIn PySem.F.slot_dict_get dd.typeIs PySem.F.entry_dict_get (PySem.F.args_dict_get_3 _ _ _) (meets_dict_get_default (yZ X.prog X.w) a (ZR ry) hd r) ⟨_, dd.mapOf, h _ _ (I.tok _) ?_⟩
    rw [l]
    exact (rel.val k).getD rd
  · subst ey
    cases (show u = Value.ref b from ry)
    obtain ⟨z, hd, xs, rel, dd⟩ := jf I.hok e
    refine call_meetsIn PySem.F.slot_dict_get dd.typeIs PySem.F.entry_dict_get (PySem.F.args_dict_get_3 _ _ _) (meetsH_dict_get_default (tupleKind (yZ X.prog X.w)) a b hd r) ⟨tupleKind_room_in1 hu, k, xs, ZS I.hok eb, dd, h _ _ (I.tok _) ?_⟩
    rw [l]
    exact (rel.val k).getD rd
end
noncomputable def zap (td ty tx : TE) : TE := fun σ H Q => td σ H fun x H1 => ∃ a, x = .ref a ∧ zao H1 a ∧ ty σ H1 fun y H2 => tx σ H2 fun z H3 => ∃ o, DGet H3 a y o ∧ Q (o.getD z) H3
section
variable {X : Cx} {o e f : Expr} {apos cpos : Pos} {td ty tx : TE}
theorem Qc (hu : X.A.units + 1 < cLine) (ho : PE X o td) (he : PE X e ty) (hf : PE X f tx) (m : M2 X o "get" apos e f cpos) : PE X (.Call (.Attribute o "get" apos) [e, f] [] cpos) (zap td ty tx) := by
  intro pins s σ H Q I h
  refine wpAny_Call_method m.base m.few m.line PySem.F.plainAttrs_dict PySem.F.slot_dict_get PySem.F.type_dict_get (zk (ho pins s σ H _ I h) fun u s1 ⟨x, H1, I1, rx, a, ex, d, q1⟩ => ?_)
  subst ex
  obtain rfl : u = Value.ref a := rx
  obtain ⟨t1, t2, _⟩ := zgs I1 d
  refine ⟨t1, t2, ?_⟩
  rw [m.trees]
  refine Calls.callWith_builtin rfl (Calls.evalArgs_plain (Calls.spliced_cons (zk (he pins s1 σ H1 _ I1 q1) fun iv s2 ⟨y, H2, I2, ry, q2⟩ =>
    Calls.spliced_cons (zk (hf pins s2 σ H2 _ I2 q2) fun fv s3 ⟨z, H3, I3, rz, ov, g, q3⟩ => Calls.spliced_nil ?_))))
  exact zgt hu I3 g ry rz fun w' s4 I4 rw' => ⟨_, H3, I4, rw', q3⟩
end
end L2
namespace Att
open PySem PySem.W PySem.Calls PyProof.Rows
theorem zgu {P : Params} {h : Heap} : ∀ (ns : List Int) (vs : List Value), WellAll P h vs (ns.map WData.int) → IntsAre vs ns := by
  intro ns
  induction ns with
  | nil =>
    intro vs w
    rw [List.map_nil] at w
    cases w
    exact .nil
  | cons n ns ih =>
    intro vs w
    rw [List.map_cons] at w
    cases w with
    | cons a b =>
      cases a
      exact .cons _ _ (ih _ b)
theorem zgv {l : OpenLaw} {n : Nat} (hn : l.most = some n) {P : Params} {h : Heap} {args : List WData} {vals : List Value}
    (hpre : l.row.toRowW.claim.pre args = true) (hwl : WellAll P h vals args) :
    ∃ a vs ns, vals = [Value.ref a] ∧ args = [WData.list (ns.map WData.int)] ∧ h.get? a = some { cls := .type "list", data := .seq vs.toArray } ∧ IntsAre vs ns ∧ ns.length ≤ n := by
  have hsh : WShape.hasAll [] args [.list .int] = true := (pre_splitW hpre).1
  have hc : l.pre.holds [] { args := args } = true := (pre_splitW hpre).2
  obtain ⟨d, r, rfl, h1, h2⟩ := hasAllW_cons hsh
  obtain rfl := hasAllW_nil h2
  obtain ⟨xs, rfl, h3⟩ := hasW_list h1
  obtain ⟨ns, rfl⟩ := items_int h3
  have hlen : ns.length ≤ n := by
    unfold OpenLaw.pre at hc
    have h4 : (WTm.not (.lt (.lit (.int (n : Int))) (.len (.arg 0)))).holds [] { args := [.list (ns.map .int)] } = true := by
      have h4 := (holds_andW hc).1
      rw [hn] at h4
      exact h4
    have h5 := condW_of h4 (w_not (w_lt w_lit (w_len_list (w_arg rfl))))
    rw [List.length_map] at h5
    refine Nat.le_of_not_lt fun q => ?_
    have q' : (n : Int) < ((ns.length : Nat) : Int) := by omega
    first
      | (rw [decide_eq_true q'] at h5; exact absurd h5 (by decide))
      | (simp at h5; omega)
  cases hwl with
  | cons w1 w2 =>
    cases w2
    cases w1 with
    | list ho hall => exact ⟨_, _, ns, rfl, rfl, ho, zgu ns _ hall, hlen⟩
theorem zgw (l : OpenLaw) (args : List WData) : l.row.toRowW.claim.post args (.bool true) args = true :=
  postW_of (r := l.row.toRowW) (X := (true == true))
    (show WShape.has [] (.bool true) .bool = true by first | rfl | decide | simp [WShape.has, WShape.arms, WShape.armsAll])
    (show (WTm.eq .res (.lit (.bool true))).value [] { args := args, res := some (.bool true), after := args } = some (.bool (true == true)) from w_eq_bool (w_res rfl) w_lit) rfl
theorem attach_call {l : OpenLaw} {n : Nat} {q : Program} {loose : List Str} {XP : (Str → Option Value) → Heap → Prop} {YP : World → Heap → Prop} {d : DefRec}
    (hn : l.most = some n) (hdf : d.params.defaults = [])
    (call : ∀ (w : World) (s₀ s₁ : Shared) (mg mb : Str → Option Value) (fa : Addr) (o : Obj) (pm cd doc : Value) (a : Addr) (vs : List Value) (ns : List Int),
      Ground q loose [] XP w s₀ mg mb s₁.heap → YP w s₁.heap →
      s₁.heap.get? fa = some o → o.data = .func (docDef d.name d.params d.body d.scope pm cd doc) → s₁.heap.CodeRec cd d.name → mg d.name = some (.ref fa) →
      s₁.heap.get? a = some { cls := .type "list", data := .seq vs.toArray } → IntsAre vs ns → ns.length ≤ n → s₁.gens = #[] →
      codeAny (model l.prog w) callerA (.call (.ref fa) ⟨[.ref a], []⟩) (fun r s' => r = .ok (.ret (.bool true)) ∧ OldK s₁.heap s'.heap ∧ s'.os = s₁.os ∧ AllBare s'.gens) s₁) :
    WalkO q loose XP YP l.row.toRowW d [] (fun f vs => PySem.call f vs) := by
  intro w s₀ s₁ mg mb G Y fa o pm cd doc dV kV ho hd hcd hD hmg hg args vals as hpre hlay hrd hwl hlo
  obtain rfl : dV = .none := Dflts.none hD hdf
  obtain rfl : kV = .none := Dflts.noKw hD
  obtain ⟨a, vs, ns, rfl, rfl, hobj, hints, hlen⟩ := zgv hn hpre hwl
  refine enter_call (codeAny_mono (call w s₀ s₁ mg mb fa o pm cd doc a vs ns G Y ho (fd_plain hd) hcd hmg hobj hints hlen hg) fun r s' hq => ?_)
  obtain ⟨rfl, h2, h3, h4⟩ := hq
  exact ⟨.inl ⟨.bool true, .bool true, [], rfl, fun _ => rfl, .bool true, zgw l _, fun _ => ⟨List.Pairwise.nil, fun _ hm => (nomatch hm)⟩⟩, h2, h3, h4⟩
section
variable {prog : Program} {w : World} {A : Around} {E : Value → Shared → Prop} {s : Shared} {K : Frag}
noncomputable def zoW (h : Heap) (L d : Addr) : List (Addr × Obj) := (List.range h.objs.size).filterMap fun a => if a = L ∨ a = d then none else (h.get? a).map fun o => (a, o)
end
end Att
namespace L2
open PySem PySem.Spec PyProof.Rows
theorem Qd : ∀ {vs : List Value} {ns : List Int}, IntsAre vs ns → Vals (ns.map V.int) vs
  | _, _, .nil => .nil
  | _, _, .cons n t h => .cons ⟨t, rfl⟩ (Qd h)
noncomputable def XS (H : Hp) : Prop := ∀ b, H b = none ∨ ∃ o xs, H b = some (.frz o (.lst xs))
theorem zgx {P : Program} {w : World} {K : PySem.W.Frag} {mg mb : Str → Option Value} {CX : xP} {k : Nat} {fa a : Addr} {fd : FuncData} {x : Str} {sp : Sp} {s₁ : Shared} {vs : List Value} {ns : List Int}
    (KX : K.In s₁.heap) (hns : s₁.heap.Ns mainGlobals mg) (hb : s₁.heap.Ns builtinsNs mb) (hbb : ∀ x : Str, x ≠ "__name__" → mb x = bootBuiltins x) (hlim : s₁.heap.NoLimit) (hg : s₁.gens = #[])
    (ha : s₁.heap.get? a = some { cls := .type "list", data := .seq vs.toArray }) (hi : IntsAre vs ns) (hl : ns.length ≤ sizeLine) (hr : Room k callerA)
    (F : ∀ base : Heap, K.In base → base.Ns mainGlobals mg → FnOk P w K mg base CX k fa fd [x] sp) (hbind : ∀ (s : Shared) (u : Value), BindsTo s fd ⟨[u], []⟩ [(x, u)])
    (hsp : ∀ H : Hp, XS H → SqL K H a (ns.map V.int) → sp [.ref a] H (fun v _ => v = .bl true) fun _ _ _ => False)
    (hCX : ∀ H e s', CX [] H s₁ (fun _ _ _ => False) e s' → False) :
    codeAny (model P w) callerA (.call (.ref fa) ⟨[.ref a], []⟩) (fun r s' => r = .ok (.ret (.bool true)) ∧ OldK s₁.heap s'.heap ∧ s'.os = s₁.os ∧ AllBare s'.gens) s₁ := by
  have rv := Qd hi
  have lenV := hi.length
  have core : ∀ H : Hp, XS H → SqL K H a (ns.map V.int) → HOk P w H s₁.heap → (∀ b, H b ≠ none → b = a) → (H a ≠ none → K.lookup a = none) →
      codeAny (model P w) callerA (.call (.ref fa) ⟨[.ref a], []⟩) (fun r s' => r = .ok (.ret (.bool true)) ∧ OldK s₁.heap s'.heap ∧ s'.os = s₁.os ∧ AllBare s'.gens) s₁ := by
    intro H hO hS hok hA hK
    have base_of : ∀ {b : Addr} {o : Obj}, s₁.heap.get? b = some o → H b = none → (vm s₁.heap H).get? b = some o := fun e n => zeJ e n
    have noA : ∀ {b : Addr} {o : Obj} {es : Array DictEntry} {ep : Nat}, s₁.heap.get? b = some o → o.data = .dict es ep → H b = none := fun {b o es ep} e d => by
      cases q : H b with
      | none => rfl
      | some u =>
        have e' : b = a := hA b (by rw [q]; simp)
        subst e'
        rw [ha] at e; cases e
        have d' : Data.seq vs.toArray _ = Data.dict es ep := d
        cases d'
    have nsK : ∀ {b : Addr} {m : Str → Option Value}, s₁.heap.Ns b m → (vm s₁.heap H).Ns b m := fun {b m} ⟨o, es, ep, e, d, r⟩ => ⟨o, es, ep, base_of e (noA e d), d, r⟩
    have hKb : K.In (vm s₁.heap H) := fun b o e => base_of (KX b o e) (by
      cases q : H b with
      | none => rfl
      | some u =>
        have e' : b = a := hA b (by rw [q]; simp)
        subst e'
        rw [hK (by rw [q]; simp)] at e; cases e)
    have hM : Mod K mg (vm s₁.heap H) := ⟨hKb, nsK hns, ⟨mb, nsK hb, hbb⟩, let ⟨mc, h1, h2⟩ := hlim; ⟨mc, nsK h1, h2⟩⟩
    have e0 : Env0 P w K mg (vm s₁.heap H) callerA [] s₁ H := ⟨rfl, hM, fun b o e => zeK e, Nat.le_of_eq (zeI _ _), trivial, fun b hb => absurd (show b ∈ ([] : List Addr) from hb) (by simp), hok, .of_eq hg⟩
    refine codeAny_mono ((F _ hKb (nsK hns)).run callerA [] s₁ H ⟨[.ref a], []⟩ [.ref a] [.ref a] _ _ hr e0 (hbind s₁ (.ref a)) (.cons rfl .nil) (hsp H hO hS)) fun r s' h => ?_
    cases r with
    | error e => exact (hCX H e s' h).elim
    | ok fl =>
      cases fl with
      | next => exact False.elim h
      | brk => exact False.elim h
      | cont => exact False.elim h
      | ret u =>
        obtain ⟨v, H', os, bare, un, hok', r', q⟩ := h
        have q' : v = .bl true := q
        subst q'
        obtain rfl : u = Value.bool true := r'
        refine ⟨rfl, OldK.of_keep fun b o e => ?_, os, bare⟩
        cases q : H b with
        | none => exact un.keep b o e q (by intro z; exact absurd (show b ∈ ([] : List Addr) from z) (by simp)) (by simp)
        | some u =>
          rcases hO b with z | ⟨ob, xs, z⟩
          · rw [q] at z; cases z
          · have z2 := un.frzs b ob _ z
            obtain ⟨e1, _⟩ := hok b _ z
            obtain ⟨e2, _⟩ := hok' b _ z2
            rw [e] at e1; cases e1
            exact e2
  cases hk : K.lookup a with
  | some o =>
    have e := KX a o hk
    rw [ha] at e
    cases e
    refine core (fun _ => none) (fun _ => .inl rfl) (.inr ⟨_, vs.toArray, _, hk, rfl, rfl, rfl, by rw [List.size_toArray, lenV]; exact hl, by simpa using rv⟩) (fun b u z => by have z' : (none : Option HO) = some u := z; cases z') (fun b z => absurd rfl z) fun z => absurd rfl z
  | none =>
    refine core (fun b => if b = a then some (.frz { cls := .type "list", data := .seq vs.toArray } (.lst (ns.map V.int))) else none) (fun b => ?_) (.inl (.inr ⟨{ cls := .type "list", data := .seq vs.toArray }, if_pos rfl⟩)) (fun b u z => ?_) (fun b z => ?_) fun _ => hk
    · by_cases hb : b = a
      · exact .inr ⟨_, _, if_pos hb⟩
      · exact .inl (if_neg hb)
    · by_cases hb : b = a
      · have z' := (if_pos hb).symm.trans z
        cases z'
        subst hb
        exact ⟨ha, by rw [List.length_map]; exact hl, vs, _, rv, ha⟩
      · have z' := (if_neg hb).symm.trans z
        cases z'
    · by_cases hb : b = a
      · exact hb
      · exact absurd (if_neg hb) z
end L2
namespace L2
open PySem PySem.Spec PyProof.Rows
noncomputable abbrev zoX {K : PySem.W.Frag} {h : Heap} (_ : K.In h) : PySem.W.Frag := K
theorem zgy {l : PySem.W.OpenLaw} {n k : Nat} {q : Program} {loose : List Str} {XP : (Str → Option Value) → Heap → Prop} {YP : World → Heap → Prop} {d : DefRec} {K : Params → PySem.W.Frag} {CX : World → xP} {sp : World → Sp} {x : Str}
    (hn : l.most = some n) (hn2 : n ≤ sizeLine) (hdf : d.params.defaults = []) (hr : Room k callerA)
    (hY : ∀ (w : World) (h : Heap), YP w h → (K w.params).In h)
    (F : ∀ (w : World) (mg : Str → Option Value) (fa : Addr) (h : Heap), (K w.params).In h → h.Ns mainGlobals mg → mg d.name = some (.ref fa) →
      ∃ fd : FuncData, (∀ (s : Shared) (u : Value), BindsTo s fd ⟨[u], []⟩ [(x, u)]) ∧
        ∀ base : Heap, (K w.params).In base → base.Ns mainGlobals mg → FnOk l.prog w (K w.params) mg base (CX w) k fa fd [x] (sp w))
    (hsp : ∀ (w : World) (H : Hp) (a : Addr) (ns : List Int), ns.length ≤ n → XS H → SqL (K w.params) H a (ns.map V.int) → sp w [.ref a] H (fun v _ => v = .bl true) fun _ _ _ => False)
    (hCX : ∀ (w : World) (H : Hp) (s : Shared) (e : Value) (s' : Shared), CX w [] H s (fun _ _ _ => False) e s' → False) :
    PySem.W.WalkO q loose XP YP l.row.toRowW d [] (fun f vs => PySem.call f vs) := by
  refine Att.attach_call hn hdf fun w s₀ s₁ mg mb fa o pm cd doc a vs ns G Y ho hd hcd hmg hobj hints hlen hg => ?_
  have KX := hY w _ Y
  obtain ⟨fd, hb, hF⟩ := F w mg fa _ KX G.T.g hmg
  exact zgx KX G.T.g G.T.b G.T.builtins G.T.nolimit hg hobj hints (Nat.le_trans hlen hn2) hr hF hb (fun H hO hS => hsp w H a ns hlen hO hS) fun H e s' => hCX w H s₁ e s'
theorem zgz {l : PySem.W.OpenLaw} {n k : Nat} {q : Program} {loose : List Str} {XP : (Str → Option Value) → Heap → Prop} {YP : World → Heap → Prop} {d : DefRec} {K : Params → PySem.W.Frag} {CX : xP} {sp : PySem.W.Frag → Sp} {x : Str}
    (hn : l.most = some n) (hn2 : n ≤ sizeLine) (hdf : d.params.defaults = []) (hr : Room k callerA)
    (hY : ∀ (w : World) (h : Heap), YP w h → (K w.params).In h)
    (F : ∀ (w : World) (mg : Str → Option Value) (fa : Addr) (h : Heap), (K w.params).In h → h.Ns mainGlobals mg → mg d.name = some (.ref fa) →
      ∃ fd : FuncData, (∀ (s : Shared) (u : Value), BindsTo s fd ⟨[u], []⟩ [(x, u)]) ∧
        ∀ base : Heap, (K w.params).In base → base.Ns mainGlobals mg → FnOk l.prog w (K w.params) mg base CX k fa fd [x] (sp (K w.params)))
    (hsp : ∀ (K : PySem.W.Frag) (H : Hp) (a : Addr) (ns : List Int), ns.length ≤ n → XS H → SqL K H a (ns.map V.int) → sp K [.ref a] H (fun v _ => v = .bl true) fun _ _ _ => False)
    (hCX : ∀ (H : Hp) (s : Shared) (e : Value) (s' : Shared), CX [] H s (fun _ _ _ => False) e s' → False) :
    PySem.W.WalkO q loose XP YP l.row.toRowW d [] (fun f vs => PySem.call f vs) :=
  zgy (K := K) (CX := fun _ => CX) (sp := fun w => sp (K w.params)) hn hn2 hdf hr hY F (fun w H a ns h1 h2 h3 => hsp (K w.params) H a ns h1 h2 h3) fun _ H s e s' => hCX H s e s'
end L2
namespace L2
open PySem PySem.Spec PyProof.Rows
noncomputable def jR (s : Stmt) : Arguments := match s with
  | .FunctionDef _ a _ _ _ _ _ _ _ _ => a
  | _ => { posonlyargs := [], args := [], vararg := none, kwonlyargs := [], kw_defaults := [], kwarg := none, defaults := [] }
noncomputable def vt (s : Stmt) : List Stmt := match s with
  | .FunctionDef _ _ b _ _ _ _ _ _ _ => b
  | _ => []
noncomputable def zA (s : Stmt) : Scope := match s with
  | .FunctionDef _ _ _ _ _ _ sc _ _ _ => sc
  | _ => { kind := .function, names := [], isGenerator := false, isCoroutine := false }
noncomputable abbrev xx : xP := fun _ _ _ _ _ _ => False
noncomputable abbrev E0 : XK := fun _ _ _ => False
theorem zgA {X : Cx} : JV xx X E0 := fun _ _ _ _ _ _ _ h => h.elim
structure Fun (K : PySem.W.Frag) (x qual : Str) (st : Stmt) (f : Addr) (fd : FuncData) : Prop where
  ex : ∃ (oc : Value) (od : Option Addr) (kV doc pm : Value) (an : Option Addr) (cdv ct : Value) (osl : Array (Option Value)),
    fd = PySem.W.fnOf x qual (jR st) (vt st) (zA st) .none kV doc pm an cdv ct ∧ K.lookup f = some ⟨oc, od, .func fd, osl⟩ ∧ PySem.W.codeIn K cdv qual = true
  kp : PySem.W.keepIn K (.ref f) = true
section
variable {P : Program} {w : World} {K : PySem.W.Frag} {mg : Str → Option Value} {base : Heap}
theorem Fun.ok {x qual : Str} {st : Stmt} {f : Addr} {fd : FuncData} {N ps : List Str} {k : Nat} {sp : Sp} (F : Fun K x qual st f fd) (S : FnScope N ps (zA st)) (len : ∀ vs H Q E, sp vs H Q E → vs.length = ps.length)
    (hbody : ∀ (cdv : Value) (A : Around) (outer : List Env) (s : Shared) (H : Hp) (vs : List V) (Q : VK) (E : XK), Room k (A.deeper (envOfC qual (zA st) s.heap.objs.size f cdv)) → sp vs H Q E →
      ∃ t, PSs (vL xx P w K mg base N qual (zA st) f cdv A outer s H E).nox (vt st) t ∧ t { nx := fun _ H' => Q .non H', rt := Q } (xH N vs) H) : FnOk P w K mg base xx (k + 1) f fd ps sp := by
  obtain ⟨oc, od, kV, doc, pm, an, cdv, ct, osl, rfl, lk, hcd⟩ := F.ex
  refine zfV lk hcd S len fun A outer s H vs Q E hr hsp => ?_
  obtain ⟨t, h, q⟩ := hbody cdv A outer s H vs Q E hr hsp
  exact ⟨t, h.nox, q⟩
theorem Fun.binds {x qual : Str} {st : Stmt} {f : Addr} {fd : FuncData} {ps : List Str} (F : Fun K x qual st f fd)
    (h : ∀ (kV doc pm : Value) (an : Option Addr) (cdv ct : Value) (us : List Value), us.length = ps.length → bindArgs (PySem.W.fnOf x qual (jR st) (vt st) (zA st) .none kV doc pm an cdv ct) ⟨us, []⟩ = pure (ps.zip us)) : Binds K fd ps [] := by
  obtain ⟨oc, od, kV, doc, pm, an, cdv, ct, osl, rfl, lk, hcd⟩ := F.ex
  exact .all (h kV doc pm an cdv ct)
theorem zgB {x qual : Str} {st : Stmt} {f : Addr} {oc : Value} {od an : Option Addr} {osl : Array (Option Value)} {kV doc pm cdv ct : Value} (l : K.lookup f = some ⟨oc, od, .func (PySem.W.fnOf x qual (jR st) (vt st) (zA st) .none kV doc pm an cdv ct), osl⟩)
    (c : PySem.W.codeIn K cdv qual = true) (k : PySem.W.keepIn K (.ref f) = true) : Fun K x qual st f (PySem.W.fnOf x qual (jR st) (vt st) (zA st) .none kV doc pm an cdv ct) := ⟨⟨oc, od, kV, doc, pm, an, cdv, ct, osl, rfl, l, c⟩, k⟩
end
theorem XT {n : Nat} (h : n ≤ 1000) : n < sizeLine := Nat.lt_of_le_of_lt h (by decide)
theorem XU {A B : Prop} (h : B) : if false = true then A else B := by
  rw [if_neg Bool.false_ne_true]
  exact h
theorem XV {A B : Prop} (h : A) : if true = true then A else B := by
  rw [if_pos rfl]
  exact h
noncomputable def Same (H H' : Hp) : Prop := ∀ b o, H b = some o → H' b = some o
theorem Same.refl (H : Hp) : Same H H := fun _ _ h => h
theorem Same.trans {H H1 H2 : Hp} (a : Same H H1) (b : Same H1 H2) : Same H H2 := fun c o h => b c o (a c o h)
theorem Same.free {H H' : Hp} (e : Same H H') {l : Addr} (h : H' l = Option.none) : H l = Option.none := by
  cases q : H l with
  | none => rfl
  | some o =>
    rw [e l o q] at h
    cases h
theorem Same.seq {K : PySem.W.Frag} {H H' : Hp} {a : Addr} {xs : List V} (e : Same H H') (h : SqL K H a xs) : SqL K H' a xs := by
  rcases h with (h | ⟨o, h⟩) | h
  · exact .inl (.inl (e _ _ h))
  · exact .inl (.inr ⟨o, e _ _ h⟩)
  · exact .inr h
end L2
namespace L2.LW
open PySem
set_option genSizeOf false
inductive D where
  | int (i : Int) | bl (b : Bool) | non | str (x : Str) | tup (l : List D) | lst (l : List D)
  | dct (t : Bool) (ks vs : List D)
mutual
noncomputable def zE : D → D → Bool
  | .int a, .int b => a == b
  | .bl a, .bl b => a == b
  | .int a, .bl b => a == (if b then 1 else 0)
  | .bl a, .int b => (if a then 1 else 0) == b
  | .non, .non => true
  | .str a, .str b => a == b
  | .tup xs, .tup ys => yP xs ys
  | .lst xs, .lst ys => yP xs ys
  | _, _ => false
noncomputable def yP : List D → List D → Bool
  | [], [] => true
  | x :: xs, y :: ys => zE x y && yP xs ys
  | _, _ => false
end
mutual
noncomputable def plain : D → Bool
  | .lst _ => false
  | .dct _ _ _ => false
  | .tup l => yE l
  | _ => true
noncomputable def yE : List D → Bool
  | [] => true
  | x :: xs => plain x && yE xs
end
inductive SV where
  | val (d : D) | obj (o : Bool) (d : D) | io (d : D)
noncomputable abbrev SV.lis (o : Bool) (ds : List D) : SV := .obj o (.lst ds)
noncomputable def toD : SV → Option D
  | .val d => some d
  | .obj true d => some d
  | _ => none
noncomputable def zq : SV → D
  | .val d => d
  | .obj _ d => d
  | .io d => d
noncomputable def SV.lent : SV → Bool
  | .val _ => false
  | .obj true _ => false
  | _ => true
noncomputable def xQ : D → Bool
  | .lst ds => yE ds
  | .dct _ _ vs => yE vs
  | d => plain d
noncomputable def SV.plain : SV → Bool
  | .val d => LW.plain d
  | .obj _ d => xQ d
  | .io _ => false
noncomputable abbrev Env := List (Option SV)
inductive Ty where
  | bool | int | str | list | tuple
  deriving DecidableEq
inductive Prim where
  | add | sub | mul | fdiv | mod | neg | eq | ne | lt | le | gt | ge | isN | notN | inn | nin | idx | len | abs | min2 | max2 | sorted | sortP | skeys | nset | sset | shl | shr | band | bor | bxor | blen | dget | dgetL | rngL | cutT | cutF | addT | mulT | mulL | addS | join0 | splitN | eqS | neS | toList | toTup | all | inst (t : Ty) | cutTo | maxL | minL | sumL | intOf
set_option genInjectivity false
mutual
inductive E where
  | int (i : Int) | bl (b : Bool) | non | str (x : Str)
  | var (i : Nat)
  | prim (p : Prim) (es : Es)
  | tup (es : Es) | lst (es : Es)
  | and (a b : E) | or (a b : E) | not (a : E)
  | chain (p q : Prim) (a b c : E)
  | ite (c a b : E)
  | call (f : Nat) (es : Es)
  | comp (rng : Bool) (src : Es) (cond elt : E)
  | dnew (t : Bool) | done (t : Bool) (k v : E)
  | compE (src cond elt : E)
inductive Es where
  | nil | cons (e : E) (es : Es)
end
set_option genInjectivity true
noncomputable def wj : Ty → D → Bool
  | .bool, .bl _ => true
  | .int, .int _ => true
  | .int, .bl _ => true
  | .str, .str _ => true
  | .list, .lst _ => true
  | .tuple, .tup _ => true
  | _, _ => false
noncomputable def ints? : List D → Option (List Int)
  | [] => some []
  | .int i :: r => (ints? r).map (i :: ·)
  | _ => none
noncomputable def lexLt : List Int → List Int → Bool
  | _, [] => false
  | [], _ :: _ => true
  | x :: xs, y :: ys => if x = y then lexLt xs ys else decide (x < y)
noncomputable def ixN (n : Nat) (i : Int) : Option Nat := if 0 ≤ i then (if i < n then some i.toNat else none) else if -(n : Int) ≤ i then some (i + n).toNat else none
noncomputable def atI {α : Type} (xs : List α) (i : Int) : Option α := (ixN xs.length i).bind fun j => xs[j]?
noncomputable def bools? : List D → Option (List Bool)
  | [] => some []
  | .bl i :: r => (bools? r).map (i :: ·)
  | _ => none
noncomputable def line : Nat := 16777216
noncomputable def jg : D → Option (List D)
  | .tup l => some l
  | .lst l => some l
  | _ => none
noncomputable def tups? : List D → Option (List (List Int))
  | [] => some []
  | .tup l :: r => (ints? l).bind fun x => (tups? r).map (x :: ·)
  | _ => none
noncomputable def jh (x : List Int) : List (List Int) → List (List Int)
  | [] => [x]
  | y :: r => if lexLt x y then x :: y :: r else y :: jh x r
noncomputable def wS : List (List Int) → List (List Int)
  | [] => []
  | x :: r => jh x (wS r)
noncomputable def vv (l : List Int) : List Int := l.mergeSort (fun a b => decide (a ≤ b))
noncomputable def zD : Nat → D → Bool
  | _, .int _ => true
  | _, .bl _ => true
  | _, .non => true
  | _, .str _ => false
  | 0, _ => false
  | n + 1, .tup l => l.all (zD n)
  | n + 1, .lst l => l.all (zD n)
  | _ + 1, .dct _ _ _ => false
noncomputable def yF : Bool → D → Bool
  | false, .int _ => true
  | true, .tup l => (ints? l).isSome
  | _, _ => false
noncomputable def yo (ks : List D) (k : D) : Option Nat := ks.findIdx? fun x => zE x k
noncomputable def dget (ks vs : List D) (k : D) : Option D := (yo ks k).bind fun i => vs[i]?
noncomputable def wk (t : Bool) (ks vs : List D) (k v : D) : D := if (yo ks k).isSome then .dct t ks (List.zipWith (fun k' v' => if zE k' k then v else v') ks vs) else .dct t (ks ++ [k]) (vs ++ [v])
noncomputable def zI (r : Int) : Option SV := some (.val (.int r))
noncomputable def ym (r : Bool) : Option SV := some (.val (.bl r))
noncomputable def XW : List D → Option SV
  | [.int a, .int b] => zI (a + b)
  | [.lst a, .lst b] => if a.length + b.length ≤ line then some (SV.obj true (.lst (a ++ b))) else none
  | _ => none
noncomputable def Qf : List D → Option SV
  | [.int a, .int b] => zI (a - b)
  | _ => none
noncomputable def XX : List D → Option SV
  | [.int a, .int b] => if (-(2 ^ 64) < a ∧ a < 2 ^ 64) ∨ (-(2 ^ 64) < b ∧ b < 2 ^ 64) then zI (a * b) else none
  | _ => none
noncomputable def zgC : List D → Option SV
  | [.int a, .int b] => if 0 < b ∧ b < 1073741824 then zI (a / b) else none
  | _ => none
noncomputable def XY : List D → Option SV
  | [.int a, .int b] => if 0 < b then zI (a % b) else none
  | _ => none
noncomputable def Qg : List D → Option SV
  | [.int a] => zI (-a)
  | _ => none
noncomputable def ZT : List D → Option SV
  | [a, b] => if zD 8 a && zD 8 b then ym (zE a b) else none
  | _ => none
noncomputable def ZU : List D → Option SV
  | [a, b] => if zD 8 a && zD 8 b then ym (!zE a b) else none
  | _ => none
noncomputable def ZV : List D → Option SV
  | [.int a, .int b] => ym (decide (a < b))
  | [.tup a, .tup b] => (ints? a).bind fun x => (ints? b).bind fun y => ym (lexLt x y)
  | _ => none
noncomputable def XZ : List D → Option SV
  | [.int a, .int b] => ym (decide (a ≤ b))
  | _ => none
noncomputable def Va : List D → Option SV
  | [.int a, .int b] => ym (decide (b < a))
  | [.tup a, .tup b] => (ints? a).bind fun x => (ints? b).bind fun y => ym (lexLt y x)
  | _ => none
noncomputable def zaq : List D → Option SV
  | [.int a, .int b] => ym (decide (b ≤ a))
  | [.tup a, .tup b] => (ints? a).bind fun x => (ints? b).bind fun y => ym (!lexLt x y)
  | _ => none
noncomputable def wT : D → Bool
  | .non => true
  | _ => false
noncomputable def zar : List D → Option SV
  | [d] => ym (wT d)
  | _ => none
noncomputable def zas : List D → Option SV
  | [d] => ym (!wT d)
  | _ => none
noncomputable def Qh : List D → Option SV
  | [x, .dct t ks _] => if yF t x then ym (yo ks x).isSome else none
  | [x, .tup l] => if zD 8 x && l.all (zD 8) then ym (l.any fun y => zE y x) else none
  | [x, .lst l] => if zD 8 x && l.all (zD 8) then ym (l.any fun y => zE y x) else none
  | _ => none
noncomputable def jS : List D → Option SV
  | [x, .dct t ks _] => if yF t x then ym (!(yo ks x).isSome) else none
  | [x, .tup l] => if zD 8 x && l.all (zD 8) then ym (!l.any fun y => zE y x) else none
  | [x, .lst l] => if zD 8 x && l.all (zD 8) then ym (!l.any fun y => zE y x) else none
  | _ => none
noncomputable def ji : List D → Option SV
  | [.dct t ks vs, k] => if yF t k then (dget ks vs k).map .val else none
  | [.tup l, .int i] => (atI l i).map .val
  | [.lst l, .int i] => (atI l i).map .val
  | _ => none
noncomputable def Qi : List D → Option SV
  | [.tup l] => zI l.length
  | [.lst l] => zI l.length
  | _ => none
noncomputable def Qj : List D → Option SV
  | [.int i] => zI (if i < 0 then -i else i)
  | _ => none
noncomputable def Qk : List D → Option SV
  | [.int i, .int j] => zI (if j < i then j else i)
  | _ => none
noncomputable def Ql : List D → Option SV
  | [.int i, .int j] => zI (if j > i then j else i)
  | _ => none
noncomputable def ZW (l : List D) : Option SV := match ints? l with
  | some ns => if ns.length < 64 then some (.obj true (.lst ((vv ns).map .int))) else none
  | none => (tups? l).bind fun ks => if ks.length < 64 ∧ ks.Nodup ∧ ks.all (fun k => !k.isEmpty) = true then some (.obj true (.lst ((wS ks).map fun k => .tup (k.map .int)))) else none
noncomputable def Vb : List D → Option SV
  | [.lst l] => ZW l
  | _ => none
noncomputable def Qm (l : List D) : Option SV := (tups? l).bind fun ks => if ks.length < 64 ∧ ks.Nodup ∧ ks.all (fun k => !k.isEmpty) = true then some (.obj true (.lst ((wS ks).map fun k => .tup (k.map .int)))) else none
noncomputable def zgD : List D → Option SV
  | [.dct true ks _] => Qm ks
  | _ => none
noncomputable def zgE : List D → Option SV
  | [.tup l, .int k] => if 0 ≤ k ∧ k < l.length then some (.val (.tup (l.take k.toNat))) else none
  | _ => none
noncomputable def zgF : List D → Option SV
  | [.tup l, .int k] => if 0 < k ∧ 0 < l.length then some (.val (.tup (l.drop k.toNat))) else none
  | _ => none
noncomputable def zgG : List D → Option SV
  | [.tup a, .tup b] => if a.length + b.length ≤ 10000000 then some (.val (.tup (a ++ b))) else none
  | _ => none
noncomputable def zgH : List D → Option SV
  | [.tup l, .int k] => if k = 2 ∧ l.length ≤ 1000 ∧ l ≠ [] then some (.val (.tup (l ++ l))) else none
  | _ => none
noncomputable def zgI : List D → Option SV
  | [.lst l, .int k] => if (k = 0 ∨ k = 1) ∧ l.length ≤ 1000 ∧ l ≠ [] then some (.obj true (.lst (if k = 1 then l else []))) else none
  | _ => none
noncomputable def zgJ : List D → Option SV
  | [.str a, .str b] => if a.length + b.length ≤ 10000000 then some (.val (.str (a ++ b))) else none
  | _ => none
noncomputable def strs? : List D → Option (List Str)
  | [] => some []
  | .str x :: r => (strs? r).map (x :: ·)
  | _ => none
noncomputable def zgK (ys : List Str) : Str := ⟨(ys.flatMap fun y => y.cps.toList).toArray⟩
noncomputable def zgL : List D → Option SV
  | [.lst l] => (strs? l).bind fun ys => if (ys.map (·.length)).sum ≤ 10000000 then some (.val (.str (zgK ys))) else none
  | _ => none
noncomputable def Qn (c : Nat) : List Nat → List (List Nat)
  | [] => [[]]
  | a :: r => if a = c then [] :: Qn c r else match Qn c r with
    | p :: ps => (a :: p) :: ps
    | [] => [[a]]
noncomputable def zgM (x : Str) : List Str := (Qn 10 x.cps.toList).map fun l => ⟨l.toArray⟩
noncomputable def zgN : List D → Option SV
  | [.str x] => if x.length ≤ 10000000 then some (.obj true (.lst ((zgM x).map D.str))) else none
  | _ => none
noncomputable def zgO (x : Str) : List D := x.cps.toList.map fun c => D.str ⟨#[c]⟩
noncomputable def zat : List D → Option SV
  | [.str a, .str b] => some (.val (.bl (decide (a = b))))
  | _ => none
noncomputable def zau : List D → Option SV
  | [.str a, .str b] => some (.val (.bl (!decide (a = b))))
  | _ => none
noncomputable def Qo : List D → Option SV
  | [.tup l] => some (SV.obj true (.lst l))
  | [.lst l] => some (SV.obj true (.lst l))
  | _ => none
noncomputable def Qp : List D → Option SV
  | [.tup l] => some (.val (.tup l))
  | [.lst l] => some (.val (.tup l))
  | _ => none
noncomputable def Vc : List D → Option SV
  | [.lst l] => (bools? l).bind fun bs => ym (bs.all id)
  | _ => none
noncomputable def zav (t : Ty) : List D → Option SV
  | [d] => ym (wj t d)
  | _ => none
noncomputable def Vd : List D → Option SV
  | [.lst l, .int k] => if 0 ≤ k then some (SV.obj true (.lst (l.take k.toNat))) else none
  | _ => none
noncomputable def zgP : List D → Option SV
  | [.lst l] => (ints? l).bind fun ns => match ns with
    | [] => none
    | n :: r => zI (r.foldl max n)
  | _ => none
noncomputable def zgQ : List D → Option SV
  | [.lst l] => (ints? l).bind fun ns => match ns with
    | [] => none
    | n :: r => zI (r.foldl min n)
  | _ => none
noncomputable def Ve : List D → Option SV
  | [.lst l] => (ints? l).bind fun ns => zI ns.sum
  | [.tup l] => (ints? l).bind fun ns => zI ns.sum
  | _ => none
noncomputable def zgR : List D → Option SV
  | [.int i] => zI i
  | [.bl b] => zI (if b then 1 else 0)
  | _ => none
noncomputable def prs? : List D → Option (List (List Int))
  | [] => some []
  | .tup [.tup [.int a, .int b], .tup [.int c, .int d]] :: r => (prs? r).map ([a, b, c, d] :: ·)
  | _ :: _ => none
noncomputable def zgS : List Int → D
  | [a, b, c, d] => .tup [.tup [.int a, .int b], .tup [.int c, .int d]]
  | _ => .non
noncomputable def zgT : List D → Option SV
  | [.lst l] => (prs? l).bind fun ks => if ks.length < 64 ∧ ks.Nodup then some (.obj true (.lst ((wS ks).map zgS))) else none
  | _ => none
noncomputable def zgU : D → Option (Int × Int)
  | .tup [.int a, .int b] => if 0 ≤ a ∧ a ≤ 7 ∧ 0 ≤ b ∧ b ≤ 7 then some (a, b) else none
  | _ => none
noncomputable def Qq : List D → Option (List (Int × Int))
  | [] => some []
  | d :: r => (zgU d).bind fun c => (Qq r).map (c :: ·)
noncomputable def ZX {α : Type} [DecidableEq α] : List α → List α
  | [] => []
  | c :: r => if c ∈ r then ZX r else c :: ZX r
noncomputable def zaw : List D → Option (List Int)
  | [] => some []
  | .int i :: r => (zaw r).map (i :: ·)
  | _ :: _ => none
noncomputable def zgV : List D → Option SV
  | [.lst ds] => match Qq ds with
    | some cs => some (.val (.int (ZX cs).length))
    | none => (zaw ds).bind fun is => if is.length ≤ 1000 then some (.val (.int (ZX is).length)) else none
  | _ => none
noncomputable def zgW : List D → Option SV
  | [.lst ds] => (Qq ds).map fun cs => .obj true (.lst ((wS ((ZX cs).map fun c => [c.1, c.2])).map fun k => .tup (k.map .int)))
  | _ => none
noncomputable def wC (n : Nat) : Nat := if n = 0 then 0 else n.log2 + 1
noncomputable def jT : List D → Option SV
  | [.int a, .int n] => if 0 ≤ a ∧ a < 1048576 ∧ 0 ≤ n ∧ n < 64 then zI (a * 2 ^ n.toNat) else none
  | _ => none
noncomputable def Vf : List D → Option SV
  | [.int a, .int n] => if 0 ≤ a ∧ 0 ≤ n ∧ n < 64 then zI ((a.toNat >>> n.toNat : Nat) : Int) else none
  | _ => none
noncomputable def jU : List D → Option SV
  | [.int a, .int b] => if 0 ≤ a ∧ 0 ≤ b then zI ((a.toNat &&& b.toNat : Nat) : Int) else none
  | _ => none
noncomputable def jV : List D → Option SV
  | [.int a, .int b] => if 0 ≤ a ∧ 0 ≤ b then zI ((a.toNat ||| b.toNat : Nat) : Int) else none
  | _ => none
noncomputable def ZY : List D → Option SV
  | [.int a, .int b] => if 0 ≤ a ∧ 0 ≤ b then zI ((a.toNat ^^^ b.toNat : Nat) : Int) else none
  | _ => none
noncomputable def ZZ : List D → Option SV
  | [.int a] => if 0 ≤ a then zI (wC a.toNat : Nat) else none
  | _ => none
noncomputable def Ya : List D → Option SV
  | [.dct false ks vs, .int k, .int i] => match dget ks vs (.int k) with
    | some (.int v) => zI v
    | none => zI i
    | _ => none
  | _ => none
noncomputable def Qr : List D → Option SV
  | [.dct false ks vs, .int k, .lst []] => match dget ks vs (.int k) with
    | some (.lst l) => some (.val (.lst l))
    | none => some (.val (.lst []))
    | _ => none
  | _ => none
noncomputable def Qs : List D → Option SV
  | [.int n] => if 0 ≤ n ∧ n ≤ 1000 then some (.obj true (.lst ((List.range n.toNat).map fun (k : Nat) => D.int (k : Int)))) else none
  | _ => none
noncomputable def ze : Prim → List D → Option SV
  | .add => XW | .sub => Qf | .mul => XX | .fdiv => zgC | .mod => XY | .neg => Qg | .eq => ZT | .ne => ZU | .lt => ZV | .le => XZ | .gt => Va | .ge => zaq
  | .isN => zar | .notN => zas | .inn => Qh | .nin => jS | .idx => ji | .len => Qi | .abs => Qj | .min2 => Qk | .max2 => Ql
  | .sorted => Vb | .sortP => zgT | .skeys => zgD | .nset => zgV | .sset => zgW | .shl => jT | .shr => Vf | .band => jU | .bor => jV | .bxor => ZY | .blen => ZZ | .dget => Ya | .dgetL => Qr | .rngL => Qs | .cutT => zgE | .cutF => zgF | .addT => zgG | .mulT => zgH | .mulL => zgI | .addS => zgJ | .join0 => zgL | .splitN => zgN | .eqS => zat | .neS => zau | .toList => Qo | .toTup => Qp | .all => Vc | .inst t => zav t | .cutTo => Vd | .maxL => zgP | .minL => zgQ | .sumL => Ve | .intOf => zgR
noncomputable def yi : SV → Option Bool
  | .val (.bl b) => some b
  | .val (.int i) => some (i != 0)
  | .val .non => some false
  | .val (.tup l) => some (!l.isEmpty)
  | .val (.lst l) => some (!l.isEmpty)
  | .obj _ (.lst l) => some (!l.isEmpty)
  | _ => none
noncomputable def look (ρ : Env) (i : Nat) : Option SV := match ρ[i]? with
  | some (some (.val d)) => some (.val d)
  | some (some (.obj _ d)) => some (.obj false d)
  | some (some (.io d)) => some (.obj false d)
  | _ => none
noncomputable def free (ρ : Env) (i : Nat) : Bool := match ρ[i]? with
  | some (some (.io _)) => false
  | _ => true
noncomputable def SV.cell : SV → Option D
  | .obj true d => some d
  | .io d => some d
  | _ => none
noncomputable def SV.put : SV → D → SV
  | .io _, d => .io d
  | _, d => .obj true d
noncomputable def wU (j : Int) : Prop := -(2 ^ 62) ≤ j ∧ j < 2 ^ 62
noncomputable instance (j : Int) : Decidable (wU j) := by unfold wU; exact inferInstance
noncomputable def zZ : Bool → List SV → Option (List D)
  | false, [r] => jg (zq r)
  | false, [.val (.lst l), .val .non] => some l.reverse
  | true, [.val (.int n)] => if wU n then some ((List.range n.toNat).map fun (k : Nat) => D.int (0 + (k : Int))) else none
  | true, [.val (.int a), .val (.int b)] => if wU a ∧ wU b then some ((List.range (b - a).toNat).map fun (k : Nat) => D.int (a + (k : Int))) else none
  | _, _ => none
noncomputable def yG (test : D → Option Bool) (elt : D → Option SV) : List D → Option (List D)
  | [] => some []
  | d :: r => (test d).bind fun b => match b with
    | true => (elt d).bind fun x => (toD x).bind fun y => (yG test elt r).map (y :: ·)
    | false => yG test elt r
noncomputable def wV {α : Type} (p : D) (f : D → D → Option α) : Option α := match p with
  | .tup [a, b] => f a b
  | _ => none
noncomputable def Yb : SV → Option (List D)
  | .val (.tup l) => some l
  | _ => none
noncomputable def yM : Nat → List D → List D
  | _, [] => []
  | k, d :: r => .tup [.int k, d] :: yM (k + 1) r
noncomputable def xR (rs : List SV) (r : Option SV) : Option SV := r.bind fun x => if rs.any SV.lent && !x.plain then none else some x
noncomputable def xc : List SV → Option (List D)
  | [] => some []
  | r :: rs => (toD r).bind fun d => (xc rs).map (d :: ·)
mutual
noncomputable def zg (fn : Nat → List D → Option SV) : E → Env → Option SV
  | .int i, _ => some (.val (.int i))
  | .bl b, _ => some (.val (.bl b))
  | .non, _ => some (.val .non)
  | .str x, _ => some (.val (.str x))
  | .var i, ρ => look ρ i
  | .prim p es, ρ => (zM fn es ρ).bind fun rs => ze p (rs.map zq)
  | .tup es, ρ => (zM fn es ρ).bind fun rs => (xc rs).map fun ds => .val (.tup ds)
  | .lst es, ρ => (zM fn es ρ).bind fun rs => (xc rs).map fun ds => SV.obj true (.lst ds)
  | .and a b, ρ => (zg fn a ρ).bind fun r => match r with
    | .val (.bl true) => zg fn b ρ
    | .val (.bl false) => some (.val (.bl false))
    | _ => none
  | .or a b, ρ => (zg fn a ρ).bind fun r => match r with
    | .val (.bl true) => some (.val (.bl true))
    | .val (.bl false) => zg fn b ρ
    | _ => none
  | .not a, ρ => (zg fn a ρ).bind fun r => match r with
    | .val (.bl b) => some (.val (.bl (!b)))
    | _ => none
  | .chain p q a b c, ρ => (zg fn a ρ).bind fun x => (zg fn b ρ).bind fun y => (ze p [zq x, zq y]).bind fun z => match z with
    | .val (.bl true) => (zg fn c ρ).bind fun w => ze q [zq y, zq w]
    | .val (.bl false) => some (.val (.bl false))
    | _ => none
  | .ite c a b, ρ => (zv fn c ρ).bind fun k => if k then zg fn a ρ else zg fn b ρ
  | .call f es, ρ => (zM fn es ρ).bind fun rs => xR rs (fn f (rs.map zq))
  | .dnew t, _ => some (.obj true (.dct t [] []))
  | .done t k v, ρ => (zg fn k ρ).bind fun x => (zg fn v ρ).bind fun y => (toD x).bind fun a => (toD y).bind fun b => if yF t a then some (.obj true (.dct t [a] [b])) else none
  | .comp rng src cond elt, ρ => (zM fn src ρ).bind fun rs => (zZ rng rs).bind fun ds =>
    if ds.length ≤ line then (yG (fun d => zv fn cond (some (.val d) :: ρ)) (fun d => zg fn elt (some (.val d) :: ρ)) ds).map fun l => SV.obj true (.lst l) else none
  | .compE src cond elt, ρ => (zg fn src ρ).bind fun r => (Yb r).bind fun ds =>
    if ds.length ≤ line then (yG (fun p => wV p fun a b => zv fn cond (some (.val a) :: some (.val b) :: ρ)) (fun p => wV p fun a b => zg fn elt (some (.val a) :: some (.val b) :: ρ)) (yM 0 ds)).map fun l => SV.obj true (.lst l) else none
noncomputable def zM (fn : Nat → List D → Option SV) : Es → Env → Option (List SV)
  | .nil, _ => some []
  | .cons e es, ρ => (zg fn e ρ).bind fun r => (zM fn es ρ).map (r :: ·)
noncomputable def zv (fn : Nat → List D → Option SV) : E → Env → Option Bool
  | .and a b, ρ => (zv fn a ρ).bind fun k => if k then zv fn b ρ else some false
  | .or a b, ρ => (zv fn a ρ).bind fun k => if k then some true else zv fn b ρ
  | .not a, ρ => (zv fn a ρ).map (!·)
  | .int i, _ => some (i != 0)
  | .bl b, _ => some b
  | .non, _ => some false
  | .str _, _ => none
  | .var i, ρ => (look ρ i).bind yi
  | .prim p es, ρ => (zM fn es ρ).bind fun rs => (ze p (rs.map zq)).bind yi
  | .tup _, _ => none
  | .lst _, _ => none
  | .chain p q a b c, ρ => (zg fn a ρ).bind fun x => (zg fn b ρ).bind fun y => (ze p [zq x, zq y]).bind fun z => match z with
    | .val (.bl true) => (zg fn c ρ).bind fun w => (ze q [zq y, zq w]).bind yi
    | .val (.bl false) => some false
    | _ => none
  | .ite _ _ _, _ => none
  | .call f es, ρ => (zM fn es ρ).bind fun rs => (xR rs (fn f (rs.map zq))).bind yi
  | .comp rng src cond elt, ρ => (zM fn src ρ).bind fun rs => (zZ rng rs).bind fun ds =>
    if ds.length ≤ line then (yG (fun d => zv fn cond (some (.val d) :: ρ)) (fun d => zg fn elt (some (.val d) :: ρ)) ds).map fun l => !l.isEmpty else none
  | .dnew _, _ => none
  | .done _ _ _, _ => none
  | .compE _ _ _, _ => none
end
inductive Ans where
  | ok (r : SV) (outs : List D)
  | ex (c : Nat)
noncomputable def zx (fa : Nat → List D → Option Ans) (f : Nat) (ds : List D) : Option SV := match fa f ds with
  | some (.ok r []) => some r
  | _ => none
set_option genInjectivity false
inductive MA where
  | nil | e (c : E) (r : MA) | s (i : Nat) (r : MA) | n (t : Bool) (r : MA)
inductive AV where
  | e (d : D) | l (ds : List D) | s (i : Nat) (d : D) | n (t : Bool)
inductive M where
  | call (f : Nat) (ma : MA)
  | op (p : Prim) (a : E) (m : M)
set_option genInjectivity true
noncomputable def jW : D → Bool
  | .dct _ _ vs => yE vs
  | _ => false
noncomputable def SV.fine : SV → Bool
  | .val d => LW.plain d
  | .obj true d => xQ d
  | _ => false
noncomputable def wD : SV → Option AV
  | .val (.lst ds) => if yE ds then some (.l ds) else none
  | .val d => if plain d then some (.e d) else none
  | .obj _ (.lst ds) => if yE ds then some (.l ds) else none
  | _ => none
noncomputable def Yc (ρ : Env) (i : Nat) : Option D := match ρ[i]? with
  | some (some x) => x.cell
  | _ => none
noncomputable def wm (fn : Nat → List D → Option SV) : MA → Env → Option (List AV)
  | .nil, _ => some []
  | .e c r, ρ => (zg fn c ρ).bind fun x => (wD x).bind fun a => (wm fn r ρ).map (a :: ·)
  | .s i r, ρ => (Yc ρ i).bind fun d => if jW d then (wm fn r ρ).map (.s i d :: ·) else none
  | .n t r, ρ => (wm fn r ρ).map (.n t :: ·)
noncomputable def jX : AV → D
  | .e d => d
  | .l ds => .lst ds
  | .s _ d => d
  | .n t => .dct t [] []
noncomputable def Vg (ρ : Env) (i : Nat) (d : D) : Env := match ρ[i]? with
  | some (some x) => ρ.set i (some (x.put d))
  | _ => ρ
noncomputable def xn (ρ : Env) : List AV → List D → Option Env
  | [], [] => some ρ
  | .s i _ :: r, d :: ds => xn (Vg ρ i d) r ds
  | .n _ :: r, _ :: ds => xn ρ r ds
  | .e _ :: r, ds => xn ρ r ds
  | .l _ :: r, ds => xn ρ r ds
  | _, _ => none
noncomputable def wW (fa : Nat → List D → Option Ans) : M → Env → Option (SV × Env)
  | .call f ma, ρ => (wm (zx fa) ma ρ).bind fun xs => (fa f (xs.map jX)).bind fun a => match a with
    | .ok r outs => if r.fine && outs.all xQ then (xn ρ xs outs).map fun ρ' => (r, ρ') else none
    | .ex _ => none
  | .op p a m, ρ => (zg (zx fa) a ρ).bind fun x => match x with
    | .val d => if plain d then (wW fa m ρ).bind fun y => (ze p [d, zq y.1]).map fun z => (z, y.2) else none
    | _ => none
set_option genInjectivity false
mutual
inductive S where
  | expr (e : E) | asg (i : Nat) (e : E) | mov (i j : Nat) | app (i : Nat) (e : E) | dset (i : Nat) (k v : E) | dupd (i j : Nat) | unp3 (i j k : Nat) (e : E) | exprM (m : M) | asgM (i : Nat) (m : M) | ifO (c : E) (m : M) (a b : Ss) | ret (e : E) | retV (i : Nat) | retN
  | ifs (c : E) (a b : Ss) | for_ (i : Nat) (rng : Bool) (src : Es) (body : Ss) | forV (i j : Nat) (body : Ss) | forK (i j : Nat) (body : Ss) | forU (i j : Nat) (rng : Bool) (src : Es) (body : Ss) | forE (i j : Nat) (src : E) (body : Ss) | while_ (c : E) (body : Ss) | frz (js : List Nat) (s : S) | brk | cnt | pass | stop | ends
inductive Ss where
  | nil | cons (s : S) (ss : Ss)
end
set_option genInjectivity true
inductive Fl where
  | nx | br | ct | rt (r : SV)
noncomputable def yH (i : Nat) (body : Env → Option (Fl × Env)) : List D → Env → Option (Fl × Env)
  | [], ρ => some (.nx, ρ)
  | d :: r, ρ => (body (ρ.set i (some (.val d)))).bind fun x => match x.1 with
    | .nx => yH i body r x.2
    | .ct => yH i body r x.2
    | .br => some (.nx, x.2)
    | .rt v => some (.rt v, x.2)
noncomputable def zgX : D → Bool
  | .tup [.int a, .int b] => decide (0 ≤ a ∧ a ≤ 7 ∧ 0 ≤ b ∧ b ≤ 7)
  | _ => false
noncomputable def Qt (ks vs : List D) : List D → List D → List D × List D
  | k :: ks2, v :: vs2 => match wk true ks vs k v with
    | .dct _ a b => Qt a b ks2 vs2
    | _ => (ks, vs)
  | _, _ => (ks, vs)
noncomputable def zgY (ρ : Env) (i : Nat) (x : SV) : Option D → Option D → Option (Fl × Env)
  | some (.dct true ks vs), some (.dct true ks2 vs2) => if ks2.all zgX && decide (ks.length + ks2.length < line) then some (.nx, ρ.set i (some (x.put (.dct true (Qt ks vs ks2 vs2).1 (Qt ks vs ks2 vs2).2)))) else none
  | _, _ => none
noncomputable def zax (ρ : Env) (i j : Nat) : Option (Fl × Env) := if i = j then none else match ρ[i]? with
  | some (some x) => zgY ρ i x x.cell (Yc ρ j)
  | _ => none
noncomputable def zay (ρ : Env) (i j k : Nat) : SV → Option (Fl × Env)
  | .obj true (.lst [a, b, c]) => if free ρ i && free ρ j && free ρ k then some (.nx, ((ρ.set i (some (.val a))).set j (some (.val b))).set k (some (.val c))) else none
  | _ => none
noncomputable def zgZ : SV → Option (List D)
  | .obj true (.lst l) => some (yM 0 l)
  | .val (.str x) => some (yM 0 (zgO x))
  | _ => none
noncomputable def Vh (i j : Nat) (body : Env → Option (Fl × Env)) : List D → Env → Option (Fl × Env)
  | [], ρ => some (.nx, ρ)
  | .tup [a, b] :: r, ρ => (body ((ρ.set i (some (.val a))).set j (some (.val b)))).bind fun x => match x.1 with
    | .nx => Vh i j body r x.2
    | .ct => Vh i j body r x.2
    | .br => some (.nx, x.2)
    | .rt v => some (.rt v, x.2)
  | _, _ => none
noncomputable def wo (test : Env → Option Bool) (body : Env → Option (Fl × Env)) : Nat → Env → Option (Fl × Env)
  | 0, _ => none
  | n + 1, ρ => (test ρ).bind fun b => if b then (body ρ).bind fun x => (match x.1 with
    | .nx => wo test body n x.2
    | .ct => wo test body n x.2
    | .br => some (.nx, x.2)
    | .rt v => some (.rt v, x.2)) else some (.nx, ρ)
noncomputable def Qu (ρ : Env) (j : Nat) : Option (List D × Env) := match ρ[j]? with
  | some (some (.val d)) => (jg d).map fun l => (l, ρ)
  | some (some (.obj _ (.lst ds))) => some (ds, ρ.set j (some (.val (.lst ds))))
  | _ => none
noncomputable def Yd (ρ : Env) (j : Nat) : Option (List D) := match ρ[j]? with
  | some (some (.val (.dct false ks _))) => some ks
  | _ => none
noncomputable def Vi : Fl × Env → Option (Fl × Env)
  | (.nx, ρ) => some (.nx, ρ)
  | _ => none
noncomputable def vN (ρ : Env) (j : Nat) : Env := match ρ[j]? with
  | some (some (.obj true d)) => ρ.set j (some (.val d))
  | _ => ρ
noncomputable def nats? : List D → Option (List Nat)
  | [] => some []
  | .int i :: r => if 0 ≤ i then (nats? r).map (i.toNat :: ·) else none
  | _ => none
noncomputable def natss? : List D → Option (List (List Nat))
  | [] => some []
  | .lst l :: r => (nats? l).bind fun ns => (natss? r).map (ns :: ·)
  | _ => none
noncomputable abbrev Kn := List (Nat × List Nat)
noncomputable def zP (kn : Kn) (k : Nat) : Option (List Nat) := (kn.find? fun p => decide (p.1 = k)).map (·.2)
noncomputable def jj (kn : Kn) (k x : Nat) : Kn := kn.map fun p => if p.1 = k then (p.1, p.2 ++ [x]) else p
noncomputable def jk (kn : Kn) (more o : Nat) : Kn := if o ∈ (zP kn more).getD [] then kn else jj kn more o
noncomputable def wE (kn : Kn) (more : Nat) : Kn := if (zP kn more).isSome then kn else kn ++ [(more, [])]
noncomputable def wF (zf : Nat) (kn : Kn) (o : Nat) : Kn := if (zf >>> o) &&& 1 = 0 then jk (wE kn (zf ||| 2 ^ o)) (zf ||| 2 ^ o) o else kn
noncomputable def vw (tb : List (List Nat)) (zf : Nat) (kn : Kn) (here : Nat) : Kn := (tb.getD here []).foldl (wF zf) kn
noncomputable def wX (tb : List (List Nat)) (kn : Kn) (zf : Nat) : Kn := ((zP kn zf).getD []).foldl (vw tb zf) kn
noncomputable def wp (ss : List Nat) : Kn := ss.map fun k => (2 ^ k, [k])
noncomputable def xS (tb : List (List Nat)) (ss : List Nat) (m : Nat) : Kn := ((List.range (2 ^ m - 1)).map (1 + ·)).foldl (wX tb) (wp ss)
noncomputable def zQ (ns : List Nat) : List D := ns.map fun (n : Nat) => D.int (n : Int)
noncomputable def vx (kn : Kn) : D := .dct false (kn.map fun p => D.int (p.1 : Int)) (kn.map fun p => .lst (zQ p.2))
noncomputable def Ye : Env → Option (Fl × Env)
  | [some (.val fl), some (.val _), some (.val (.lst st)), some (.val (.int m)), some (.obj true (.lst tb)), none, none, none, none, none, none] =>
    if 0 ≤ m ∧ m ≤ 10 then (nats? st).bind fun ss => (natss? tb).bind fun t =>
      if (ss.all fun k => decide (k < m.toNat)) && decide ss.Nodup && decide (t.length = m.toNat) && (t.all fun r => r.all fun k => decide (k < m.toNat)) then
        some (.nx, [some (.val fl), none, none, some (.val (.int m)), none, some (.val (vx (xS t ss m.toNat))), none, none, none, none, none]) else none else none
  | _ => none
mutual
noncomputable def zB (fa : Nat → List D → Option Ans) (fuel : Nat) : S → Env → Option (Fl × Env)
  | .expr e, ρ => (zg (zx fa) e ρ).map fun _ => (.nx, ρ)
  | .asg i e, ρ => (zg (zx fa) e ρ).bind fun r => if r.lent || !free ρ i then none else some (.nx, ρ.set i (some r))
  | .mov i j, ρ => if free ρ i then (match ρ[j]? with
    | some (some (.val d)) => some (.nx, ρ.set i (some (.val d)))
    | some (some (.obj _ d)) => some (.nx, (ρ.set j (some (.val d))).set i (some (.val d)))
    | _ => none) else none
  | .app i e, ρ => match ρ[i]? with
    | some (some x) => (match x.cell with
      | some (.lst ds) => (zg (zx fa) e ρ).bind fun r => (toD r).bind fun d => if ds.length < line then some (.nx, ρ.set i (some (x.put (.lst (ds ++ [d]))))) else none
      | _ => none)
    | _ => none
  | .dupd i j, ρ => zax ρ i j
  | .unp3 i j k e, ρ => (zg (zx fa) e ρ).bind (zay ρ i j k)
  | .dset i k v, ρ => match ρ[i]? with
    | some (some x) => (match x.cell with
      | some (.dct t ks vs) => (zg (zx fa) v ρ).bind fun r => (toD r).bind fun d => (zg (zx fa) k ρ).bind fun r => (toD r).bind fun a => if yF t a && decide (ks.length < line) then some (.nx, ρ.set i (some (x.put (wk t ks vs a d)))) else none
      | _ => none)
    | _ => none
  | .exprM m, ρ => (wW fa m ρ).map fun x => (.nx, x.2)
  | .asgM i m, ρ => (wW fa m ρ).bind fun x => if x.1.lent || !free x.2 i then none else some (.nx, x.2.set i (some (.val (zq x.1))))
  | .ifO c m a b, ρ => (zv (zx fa) c ρ).bind fun k => if k then zy fa fuel a ρ else (wW fa m ρ).bind fun x => (yi x.1).bind fun k => if k then zy fa fuel a x.2 else zy fa fuel b x.2
  | .ret e, ρ => (zg (zx fa) e ρ).bind fun r => if r.lent then none else some (.rt r, ρ)
  | .retV i, ρ => match ρ[i]? with
    | some (some (.val d)) => some (.rt (.val d), ρ)
    | some (some (.obj _ d)) => some (.rt (.obj true d), ρ.set i none)
    | _ => none
  | .retN, ρ => some (.rt (.val .non), ρ)
  | .ifs c a b, ρ => (zv (zx fa) c ρ).bind fun k => if k then zy fa fuel a ρ else zy fa fuel b ρ
  | .for_ i rng src body, ρ => (zM (zx fa) src ρ).bind fun rs => if rs.any SV.lent || !free ρ i then none else (zZ rng rs).bind fun ds => yH i (zy fa fuel body) ds ρ
  | .forV i j body, ρ => if free ρ i then (Qu ρ j).bind fun x => yH i (zy fa fuel body) x.1 x.2 else none
  | .forK i j body, ρ => if free ρ i then (Yd ρ j).bind fun ks => (yH i (zy fa fuel body) ks ρ).bind Vi else none
  | .forU i j rng src body, ρ => (zM (zx fa) src ρ).bind fun rs => if rs.any SV.lent || !free ρ i || !free ρ j then none else (zZ rng rs).bind fun ds => Vh i j (zy fa fuel body) ds ρ
  | .forE i j src body, ρ => (zg (zx fa) src ρ).bind fun r => if !free ρ i || !free ρ j then none else (zgZ r).bind fun ds => Vh i j (zy fa fuel body) ds ρ
  | .while_ c body, ρ => wo (zv (zx fa) c) (zy fa fuel body) fuel ρ
  | .frz js s, ρ => zB fa fuel s (js.foldl vN ρ)
  | .brk, ρ => some (.br, ρ)
  | .cnt, ρ => some (.ct, ρ)
  | .pass, ρ => some (.nx, ρ)
  | .stop, _ => none
  | .ends, ρ => Ye ρ
noncomputable def zy (fa : Nat → List D → Option Ans) (fuel : Nat) : Ss → Env → Option (Fl × Env)
  | .nil, ρ => some (.nx, ρ)
  | .cons s ss, ρ => (zB fa fuel s ρ).bind fun x => match x.1 with
    | .nx => zy fa fuel ss x.2
    | _ => some x
end
inductive Hd where
  | ret (ks : List Nat) | two (i n : Nat) (ks ks2 : List Nat) | kin (ks : List Nat)
mutual
inductive T where
  | pl (s : S) | raise (c : Nat) | raiseF (c k : Nat) | callX (i : Nat) (es : Es) | retX (i : Nat) (es : Es) | asgX (k i : Nat) (es : Es) | ifX (neg : Bool) (i : Nat) (es : Es) (a b : Ts) | ifs (c : E) (a b : Ts) | tryX (b : Ts) (k : Nat) (cs : List Nat) (h : Hd) | stuck
inductive Ts where
  | nil | cons (t : T) (ts : Ts)
end
inductive FlX where
  | fl (f : Fl) | ex (c : Nat)
noncomputable def zg0 (c k : Nat) : Bool := k == c || k == 0 || k == 7
noncomputable def wY (fa : Nat → List D → Option Ans) (i : Nat) (es : Es) (ρ : Env) : Option Ans := (zM (zx fa) es ρ).bind fun rs => if rs.any SV.lent then none else fa i (rs.map zq)
noncomputable def zg1 : Option SV → Bool
  | some (.io _) => false
  | _ => true
noncomputable def Qv (c : Nat) (ρ : Env) : Hd → Option (FlX × Env)
  | .ret ks => if ks.all (zg0 c) then some (.fl (.rt (.obj true (.lst (ks.map fun _ => .bl true)))), ρ) else none
  | .two i n ks ks2 => if ρ.all zg1 then some (.fl .nx, (List.replicate n none).set i (some (.obj true (.lst ((ks ++ ks2).map fun x => .bl (x == c)))))) else none
  | .kin ks => some (.fl (.rt (.obj true (.lst (ks.map fun x => .bl (x == 7 || x == c))))), ρ)
mutual
noncomputable def yQ (fa : Nat → List D → Option Ans) (fuel : Nat) : T → Env → Option (FlX × Env)
  | .pl s, ρ => (zB fa fuel s ρ).map fun x => (.fl x.1, x.2)
  | .raise c, ρ => some (.ex c, ρ)
  | .raiseF c k, ρ => match look ρ k with
    | some (.val (.int i)) => if 0 ≤ i ∧ i < 1000 then some (.ex c, ρ) else none
    | _ => none
  | .callX i es, ρ => (wY fa i es ρ).bind fun a => match a with
    | .ok _ [] => some (.fl .nx, ρ)
    | .ex c => some (.ex c, ρ)
    | _ => none
  | .retX i es, ρ => (wY fa i es ρ).bind fun a => match a with
    | .ok r [] => if r.lent then none else some (.fl (.rt r), ρ)
    | .ex c => some (.ex c, ρ)
    | _ => none
  | .asgX k i es, ρ => (wY fa i es ρ).bind fun a => match a with
    | .ok r [] => if r.lent || !free ρ k then none else some (.fl .nx, ρ.set k (some r))
    | .ex c => some (.ex c, ρ)
    | _ => none
  | .ifX neg i es a b, ρ => (wY fa i es ρ).bind fun x => match x with
    | .ok (.val (.bl k)) [] => if k != neg then xf fa fuel a ρ else xf fa fuel b ρ
    | .ex c => some (.ex c, ρ)
    | _ => none
  | .ifs c a b, ρ => (zv (zx fa) c ρ).bind fun k => if k then xf fa fuel a ρ else xf fa fuel b ρ
  | .tryX b k cs h, ρ => (xf fa fuel b ρ).bind fun x => match x.1 with
    | .fl _ => some x
    | .ex c => if cs.contains c then Qv c x.2 h else none
  | .stuck, _ => none
noncomputable def xf (fa : Nat → List D → Option Ans) (fuel : Nat) : Ts → Env → Option (FlX × Env)
  | .nil, ρ => some (.fl .nx, ρ)
  | .cons t ts, ρ => (yQ fa fuel t ρ).bind fun x => match x.1 with
    | .fl .nx => xf fa fuel ts x.2
    | _ => some x
end
structure Fn where
  np : Nat
  nl : Nat
  body : Ss
  io : List Nat := []
  xb : Option Ts := none
noncomputable def Vj : Option (FlX × Env) → Option Ans
  | some (.fl (.rt r), _) => some (.ok r [])
  | some (.fl .nx, _) => some (.ok (.val .non) [])
  | some (.ex c, _) => some (.ex c)
  | _ => none
noncomputable def xT (ρ : Env) : List Nat → Option (List D)
  | [] => some []
  | i :: r => match ρ[i]? with
    | some (some (.io d)) => (xT ρ r).map (d :: ·)
    | _ => none
noncomputable def jl (io : List Nat) : Option (Fl × Env) → Option Ans
  | some (.rt r, ρ) => (xT ρ io).map (Ans.ok r)
  | some (.nx, ρ) => (xT ρ io).map (Ans.ok (.val .non))
  | _ => none
noncomputable def xI (io : List Nat) : Nat → List D → Env
  | _, [] => []
  | k, d :: r => some (if io.contains k then .io d else .val d) :: xI io (k + 1) r
noncomputable def zR (P : Nat → Option Fn) (fuel : Nat) : Nat → Nat → List D → Option Ans
  | 0, _, _ => none
  | n + 1, f, ds => (P f).bind fun F => if ds.length = F.np then (match F.xb with
    | none => jl F.io (zy (zR P fuel n) fuel F.body (xI F.io 0 ds ++ List.replicate (F.nl - F.np) none))
    | some t => Vj (xf (zR P fuel n) fuel t (xI [] 0 ds ++ List.replicate (F.nl - F.np) none))) else none
noncomputable def zG (P : Nat → Option Fn) (fuel n : Nat) : Nat → List D → Option SV := zx (zR P fuel n)
theorem jY {fn i ρ} : zg fn (E.int i) ρ = (some (.val (.int i))) := id rfl
theorem zg2 {fn b ρ} : zg fn (E.bl b) ρ = (some (.val (.bl b))) := id rfl
theorem zg3 {fn  ρ} : zg fn (E.non) ρ = (some (.val .non)) := id rfl
theorem zg4 {fn i ρ} : zg fn (E.var i) ρ = (look ρ i) := id rfl
theorem xg {fn p es ρ} : zg fn (E.prim p es) ρ = ((zM fn es ρ).bind fun rs => ze p (rs.map zq)) := id rfl
theorem zg5 {fn es ρ} : zg fn (E.tup es) ρ = ((zM fn es ρ).bind fun rs => (xc rs).map fun ds => .val (.tup ds)) := id rfl
theorem zg6 {fn es ρ} : zg fn (E.lst es) ρ = ((zM fn es ρ).bind fun rs => (xc rs).map fun ds => SV.obj true (.lst ds)) := id rfl
theorem zg7 {fn a b ρ} : zg fn (E.and a b) ρ = ((zg fn a ρ).bind fun r => match r with
    | .val (.bl true) => zg fn b ρ
    | .val (.bl false) => some (.val (.bl false))
    | _ => none) := id rfl
theorem zg8 {fn p q a b c ρ} : zg fn (E.chain p q a b c) ρ = ((zg fn a ρ).bind fun x => (zg fn b ρ).bind fun y => (ze p [zq x, zq y]).bind fun z => match z with
    | .val (.bl true) => (zg fn c ρ).bind fun w => ze q [zq y, zq w]
    | .val (.bl false) => some (.val (.bl false))
    | _ => none) := id rfl
theorem zaz {fn f es ρ} : zg fn (E.call f es) ρ = ((zM fn es ρ).bind fun rs => xR rs (fn f (rs.map zq))) := id rfl
theorem zaA {fn t ρ} : zg fn (E.dnew t) ρ = (some (.obj true (.dct t [] []))) := id rfl
theorem zg9 {fn src cond elt ρ} : zg fn (E.compE src cond elt) ρ = ((zg fn src ρ).bind fun r => (Yb r).bind fun ds =>
    if ds.length ≤ line then (yG (fun p => wV p fun a b => zv fn cond (some (.val a) :: some (.val b) :: ρ)) (fun p => wV p fun a b => zg fn elt (some (.val a) :: some (.val b) :: ρ)) (yM 0 ds)).map fun l => SV.obj true (.lst l) else none) := id rfl
theorem zaB {fn rng src cond elt ρ} : zg fn (E.comp rng src cond elt) ρ = ((zM fn src ρ).bind fun rs => (zZ rng rs).bind fun ds =>
    if ds.length ≤ line then (yG (fun d => zv fn cond (some (.val d) :: ρ)) (fun d => zg fn elt (some (.val d) :: ρ)) ds).map fun l => SV.obj true (.lst l) else none) := id rfl
theorem yI {fn  ρ} : zM fn (Es.nil) ρ = (some []) := id rfl
theorem yJ {fn e es ρ} : zM fn (Es.cons e es) ρ = ((zg fn e ρ).bind fun r => (zM fn es ρ).map (r :: ·)) := id rfl
theorem zha {fn a b ρ} : zv fn (E.and a b) ρ = ((zv fn a ρ).bind fun k => if k then zv fn b ρ else some false) := id rfl
theorem zhb {fn a b ρ} : zv fn (E.or a b) ρ = ((zv fn a ρ).bind fun k => if k then some true else zv fn b ρ) := id rfl
theorem zhc {fn a ρ} : zv fn (E.not a) ρ = ((zv fn a ρ).map (!·)) := id rfl
theorem zhd {fn b ρ} : zv fn (E.bl b) ρ = (some b) := id rfl
theorem Yf {fn p es ρ} : zv fn (E.prim p es) ρ = ((zM fn es ρ).bind fun rs => (ze p (rs.map zq)).bind yi) := id rfl
theorem zhe {fn p q a b c ρ} : zv fn (E.chain p q a b c) ρ = ((zg fn a ρ).bind fun x => (zg fn b ρ).bind fun y => (ze p [zq x, zq y]).bind fun z => match z with
    | .val (.bl true) => (zg fn c ρ).bind fun w => (ze q [zq y, zq w]).bind yi
    | .val (.bl false) => some false
    | _ => none) := id rfl
theorem zhf {fn f es ρ} : zv fn (E.call f es) ρ = ((zM fn es ρ).bind fun rs => (xR rs (fn f (rs.map zq))).bind yi) := id rfl
theorem zhg {fa fuel e ρ} : zB fa fuel (S.expr e) ρ = ((zg (zx fa) e ρ).map fun _ => (.nx, ρ)) := id rfl
theorem zaC {fa fuel i e ρ} : zB fa fuel (S.asg i e) ρ = ((zg (zx fa) e ρ).bind fun r => if r.lent || !free ρ i then none else some (.nx, ρ.set i (some r))) := id rfl
theorem zhh {fa fuel i j ρ} : zB fa fuel (S.mov i j) ρ = (if free ρ i then (match ρ[j]? with
    | some (some (.val d)) => some (.nx, ρ.set i (some (.val d)))
    | some (some (.obj _ d)) => some (.nx, (ρ.set j (some (.val d))).set i (some (.val d)))
    | _ => none) else none) := id rfl
theorem zaD {fa fuel i e ρ} : zB fa fuel (S.app i e) ρ = (match ρ[i]? with
    | some (some x) => (match x.cell with
      | some (.lst ds) => (zg (zx fa) e ρ).bind fun r => (toD r).bind fun d => if ds.length < line then some (.nx, ρ.set i (some (x.put (.lst (ds ++ [d]))))) else none
      | _ => none)
    | _ => none) := id rfl
theorem zaE {fa fuel i k v ρ} : zB fa fuel (S.dset i k v) ρ = (match ρ[i]? with
    | some (some x) => (match x.cell with
      | some (.dct t ks vs) => (zg (zx fa) v ρ).bind fun r => (toD r).bind fun d => (zg (zx fa) k ρ).bind fun r => (toD r).bind fun a => if yF t a && decide (ks.length < line) then some (.nx, ρ.set i (some (x.put (wk t ks vs a d)))) else none
      | _ => none)
    | _ => none) := id rfl
theorem zhi {fa fuel e ρ} : zB fa fuel (S.ret e) ρ = ((zg (zx fa) e ρ).bind fun r => if r.lent then none else some (.rt r, ρ)) := id rfl
theorem zaF {fa fuel i ρ} : zB fa fuel (S.retV i) ρ = (match ρ[i]? with
    | some (some (.val d)) => some (.rt (.val d), ρ)
    | some (some (.obj _ d)) => some (.rt (.obj true d), ρ.set i none)
    | _ => none) := id rfl
theorem zhj {fa fuel c a b ρ} : zB fa fuel (S.ifs c a b) ρ = ((zv (zx fa) c ρ).bind fun k => if k then zy fa fuel a ρ else zy fa fuel b ρ) := id rfl
theorem zhk {fa fuel i rng src body ρ} : zB fa fuel (S.for_ i rng src body) ρ = ((zM (zx fa) src ρ).bind fun rs => if rs.any SV.lent || !free ρ i then none else (zZ rng rs).bind fun ds => yH i (zy fa fuel body) ds ρ) := id rfl
theorem zhl {fa fuel i j body ρ} : zB fa fuel (S.forK i j body) ρ = (if free ρ i then (Yd ρ j).bind fun ks => (yH i (zy fa fuel body) ks ρ).bind Vi else none) := id rfl
theorem zhm {fa fuel c body ρ} : zB fa fuel (S.while_ c body) ρ = (wo (zv (zx fa) c) (zy fa fuel body) fuel ρ) := id rfl
theorem zhn {fa fuel js s ρ} : zB fa fuel (S.frz js s) ρ = (zB fa fuel s (js.foldl vN ρ)) := id rfl
theorem zho {fa fuel  ρ} : zB fa fuel (S.stop) ρ = (none) := id rfl
theorem zhp {fa fuel ρ} : zB fa fuel (S.ends) ρ = (Ye ρ) := id rfl
theorem zhq {fa fuel  ρ} : zy fa fuel (Ss.nil) ρ = (some (.nx, ρ)) := id rfl
theorem zaG {fa fuel s ss ρ} : zy fa fuel (Ss.cons s ss) ρ = ((zB fa fuel s ρ).bind fun x => match x.1 with
    | .nx => zy fa fuel ss x.2
    | _ => some x) := id rfl
theorem vy {α : Type} {P : List α → Prop} (h : ∀ a0, P [a0]) (us : List α) (hl : us.length = 1) : P us := by
  cases us with
  | nil => cases hl
  | cons a0 r0 =>
    cases r0 with
    | nil => exact h a0
    | cons _ _ => simp at hl
theorem vO {α : Type} {P : List α → Prop} (h : ∀ a0 a1, P [a0, a1]) (us : List α) (hl : us.length = 2) : P us := by
  cases us with
  | nil => cases hl
  | cons a0 r0 =>
    cases r0 with
    | nil => cases hl
    | cons a1 r1 =>
      cases r1 with
      | nil => exact h a0 a1
      | cons _ _ => simp at hl
theorem vP {α : Type} {P : List α → Prop} (h : ∀ a0 a1 a2, P [a0, a1, a2]) (us : List α) (hl : us.length = 3) : P us := by
  cases us with
  | nil => cases hl
  | cons a0 r0 =>
    cases r0 with
    | nil => cases hl
    | cons a1 r1 =>
      cases r1 with
      | nil => cases hl
      | cons a2 r2 =>
        cases r2 with
        | nil => exact h a0 a1 a2
        | cons _ _ => simp at hl
theorem zhr {α : Type} {P : List α → Prop} (h : ∀ a0 a1 a2 a3, P [a0, a1, a2, a3]) (us : List α) (hl : us.length = 4) : P us := by
  cases us with
  | nil => cases hl
  | cons a0 r0 =>
    cases r0 with
    | nil => cases hl
    | cons a1 r1 =>
      cases r1 with
      | nil => cases hl
      | cons a2 r2 =>
        cases r2 with
        | nil => cases hl
        | cons a3 r3 =>
          cases r3 with
          | nil => exact h a0 a1 a2 a3
          | cons _ _ => simp at hl
end L2.LW
set_option maxHeartbeats 4000000
namespace L2.LW
open PySem PySem.Spec PyProof.Rows
noncomputable def Yg (K : PySem.W.Frag) (a : Addr) (xs : List V) : Prop :=
  ∃ (o : Obj) (its : Array Value) (n : Nat), K.lookup a = some o ∧ o.cls = .type "list" ∧ o.dict = Option.none ∧ o.data = .seq its n ∧ its.size ≤ sizeLine ∧ Vals xs its.toList
noncomputable def zT (ns : List Int) (ys : List V) : List (zn × V) := (ns.map Sum.inl).zip ys
noncomputable def xh (ns : List (List Int)) (ys : List V) : List (List zn × V) := (ns.map fun l => l.map Sum.inl).zip ys
noncomputable def kT (l : List Int) : D := .tup (l.map D.int)
mutual
inductive Rep (K : PySem.W.Frag) (W : Addr → Prop) (H : Hp) : D → V → Prop where
  | int (i : Int) : Rep K W H (.int i) (.int i)
  | bl (b : Bool) : Rep K W H (.bl b) (.bl b)
  | non : Rep K W H .non .non
  | str (x : Str) : Rep K W H (.str x) (.str x)
  | tup {a : Addr} {xs : List V} {ds : List D} (h : H a = some (.tup xs)) (r : Reps K W H ds xs) : Rep K W H (.tup ds) (.ref a)
  | lst {a : Addr} {xs : List V} {ds : List D} (h : (¬ W a ∧ Rd H a (.lst xs)) ∨ Yg K a xs) (r : Reps K W H ds xs) : Rep K W H (.lst ds) (.ref a)
  | dK {a : Addr} {ns : List Int} {ys : List V} {vs : List D} (n : ¬ W a) (h : Rd H a (.dK (zT ns ys))) (l : ns.length = ys.length) (r : Reps K W H vs ys) : Rep K W H (.dct false (ns.map D.int) vs) (.ref a)
  | dT {a : Addr} {ns : List (List Int)} {ys : List V} {vs : List D} (n : ¬ W a) (h : H a = some (.dT (xh ns ys))) (l : ns.length = ys.length) (r : Reps K W H vs ys) : Rep K W H (.dct true (ns.map kT) vs) (.ref a)
inductive Reps (K : PySem.W.Frag) (W : Addr → Prop) (H : Hp) : List D → List V → Prop where
  | nil : Reps K W H [] []
  | cons {d : D} {v : V} {ds : List D} {vs : List V} (h : Rep K W H d v) (t : Reps K W H ds vs) : Reps K W H (d :: ds) (v :: vs)
end
inductive ORep (K : PySem.W.Frag) (W : Addr → Prop) (H : Hp) : D → HO → Prop where
  | lst {xs : List V} {ds : List D} (r : Reps K W H ds xs) : ORep K W H (.lst ds) (.lst xs)
  | dK {ns : List Int} {ys : List V} {vs : List D} (l : ns.length = ys.length) (r : Reps K W H vs ys) : ORep K W H (.dct false (ns.map D.int) vs) (.dK (zT ns ys))
  | dT {ns : List (List Int)} {ys : List V} {vs : List D} (l : ns.length = ys.length) (r : Reps K W H vs ys) : ORep K W H (.dct true (ns.map kT) vs) (.dT (xh ns ys))
structure Ext (W : Addr → Prop) (H : Hp) (W' : Addr → Prop) (H' : Hp) : Prop where
  keep : ∀ a o, H a = some o → ¬ W a → H' a = some o
  tup : ∀ a xs, H a = some (.tup xs) → H' a = some (.tup xs)
  frz : ∀ a o u, H a = some (.frz o u) → H' a = some (.frz o u)
  win : ∀ a, W' a → W a ∨ H a = Option.none
theorem Ext.refl (W : Addr → Prop) (H : Hp) : Ext W H W H := ⟨fun _ _ h _ => h, fun _ _ h => h, fun _ _ _ h => h, fun _ h => .inl h⟩
theorem Ext.out {W W' : Addr → Prop} {H H' : Hp} (x : Ext W H W' H') {a : Addr} {o : HO} (h : H a = some o) (n : ¬ W a) : ¬ W' a := fun w => by
  rcases x.win a w with q | q
  · exact n q
  · rw [h] at q; cases q
theorem zhs {W W' : Addr → Prop} {H H' : Hp} (x : Ext W H W' H') {a : Addr} {u : HO} (h : Rd H a u) (n : ¬ W a) : Rd H' a u := by
  rcases h with h | ⟨o, h⟩
  · exact .inl (x.keep _ _ h n)
  · exact .inr ⟨o, x.keep _ _ h n⟩
theorem zht {W W' : Addr → Prop} {H H' : Hp} (x : Ext W H W' H') {a : Addr} {u : HO} (h : Rd H a u) (n : ¬ W a) : ¬ W' a := by
  rcases h with h | ⟨o, h⟩
  · exact x.out h n
  · exact x.out h n
theorem Ext.trans {W W1 W2 : Addr → Prop} {H H1 H2 : Hp} (x : Ext W H W1 H1) (y : Ext W1 H1 W2 H2) : Ext W H W2 H2 := by
  refine ⟨fun a o h n => y.keep a o (x.keep a o h n) (x.out h n), fun a xs h => y.tup a xs (x.tup a xs h), fun a o u h => y.frz a o u (x.frz a o u h), fun a w => ?_⟩
  rcases y.win a w with q | q
  · exact x.win a q
  · cases e : H a with
    | none => exact .inr rfl
    | some o =>
      by_cases hw : W a
      · exact .inl hw
      · rw [x.keep a o e hw] at q; cases q
theorem Ext.same {W : Addr → Prop} {H H' : Hp} (s : Same H H') : Ext W H W H' := ⟨fun a o h _ => s a o h, fun a xs h => s a _ h, fun a o u h => s a _ h, fun _ w => .inl w⟩
section
variable {K : PySem.W.Frag} {W W' : Addr → Prop} {H H' : Hp}
mutual
theorem Rep.ext (x : Ext W H W' H') : ∀ {d : D} {v : V}, Rep K W H d v → Rep K W' H' d v
  | _, _, .int i => .int i
  | _, _, .bl b => .bl b
  | _, _, .non => .non
  | _, _, .str s => .str s
  | _, _, .dK n h l r => .dK (zht x h n) (zhs x h n) l (Reps.ext x r)
  | _, _, .dT n h l r => .dT (x.out h n) (x.keep _ _ h n) l (Reps.ext x r)
  | _, _, .tup h r => .tup (x.tup _ _ h) (Reps.ext x r)
  | _, _, .lst h r => .lst (by
      rcases h with ⟨n, h | ⟨o, h⟩⟩ | h
      · exact .inl ⟨x.out h n, .inl (x.keep _ _ h n)⟩
      · exact .inl ⟨x.out h n, .inr ⟨o, x.keep _ _ h n⟩⟩
      · exact .inr h) (Reps.ext x r)
theorem Reps.ext (x : Ext W H W' H') : ∀ {ds : List D} {vs : List V}, Reps K W H ds vs → Reps K W' H' ds vs
  | _, _, .nil => .nil
  | _, _, .cons h t => .cons (Rep.ext x h) (Reps.ext x t)
end
mutual
theorem Rep.less (x : ∀ a, W' a → W a) : ∀ {d : D} {v : V}, Rep K W H d v → Rep K W' H d v
  | _, _, .int i => .int i
  | _, _, .bl b => .bl b
  | _, _, .non => .non
  | _, _, .str s => .str s
  | _, _, .dK n h l r => .dK (fun w => n (x _ w)) h l (Reps.less x r)
  | _, _, .dT n h l r => .dT (fun w => n (x _ w)) h l (Reps.less x r)
  | _, _, .tup h r => .tup h (Reps.less x r)
  | _, _, .lst h r => .lst (by
      rcases h with ⟨n, h⟩ | h
      · exact .inl ⟨fun w => n (x _ w), h⟩
      · exact .inr h) (Reps.less x r)
theorem Reps.less (x : ∀ a, W' a → W a) : ∀ {ds : List D} {vs : List V}, Reps K W H ds vs → Reps K W' H ds vs
  | _, _, .nil => .nil
  | _, _, .cons h t => .cons (Rep.less x h) (Reps.less x t)
end
mutual
theorem Rep.plain : ∀ {d : D} {v : V}, Rep K W H d v → LW.plain d = true → Rep K W' H d v
  | _, _, .int i, _ => .int i
  | _, _, .bl b, _ => .bl b
  | _, _, .non, _ => .non
  | _, _, .str s, _ => .str s
  | _, _, .tup h r, p => .tup h (Reps.plain r (by simpa [LW.plain] using p))
  | _, _, .lst h r, p => by simp [LW.plain] at p
  | _, _, .dK _ _ _ _, p => by simp [LW.plain] at p
  | _, _, .dT _ _ _ _, p => by simp [LW.plain] at p
theorem Reps.plain : ∀ {ds : List D} {vs : List V}, Reps K W H ds vs → yE ds = true → Reps K W' H ds vs
  | _, _, .nil, _ => .nil
  | _, _, .cons h t, p => by
    simp only [yE, Bool.and_eq_true] at p
    exact .cons (Rep.plain h p.1) (Reps.plain t p.2)
end
theorem Reps.length : ∀ {ds : List D} {vs : List V}, Reps K W H ds vs → ds.length = vs.length
  | _, _, .nil => rfl
  | _, _, .cons _ t => by simp [Reps.length t]
theorem Reps.get : ∀ {ds : List D} {vs : List V} {i : Nat} {d : D}, Reps K W H ds vs → ds[i]? = some d → ∃ v, vs[i]? = some v ∧ Rep K W H d v
  | _, _, _, _, .nil, e => by simp at e
  | _, _, 0, _, .cons h _, e => by simp at e; subst e; exact ⟨_, rfl, h⟩
  | _, _, i + 1, d, .cons _ t, e => by
    obtain ⟨v, h1, h2⟩ := Reps.get (i := i) (d := d) t (by simpa using e)
    exact ⟨v, by simpa using h1, h2⟩
theorem Reps.append : ∀ {ds es : List D} {vs us : List V}, Reps K W H ds vs → Reps K W H es us → Reps K W H (ds ++ es) (vs ++ us)
  | _, _, _, _, .nil, s => s
  | _, _, _, _, .cons h t, s => .cons h (Reps.append t s)
theorem Reps.take : ∀ {ds : List D} {vs : List V} (n : Nat), Reps K W H ds vs → Reps K W H (ds.take n) (vs.take n)
  | _, _, 0, _ => .nil
  | _, _, _ + 1, .nil => .nil
  | _, _, n + 1, .cons h t => .cons h (Reps.take n t)
theorem Reps.drop : ∀ {ds : List D} {vs : List V} (n : Nat), Reps K W H ds vs → Reps K W H (ds.drop n) (vs.drop n)
  | _, _, 0, r => r
  | _, _, _ + 1, .nil => .nil
  | _, _, n + 1, .cons _ t => Reps.drop n t
theorem Reps.ints : ∀ (ns : List Int), Reps K W H (ns.map D.int) (ns.map V.int)
  | [] => .nil
  | i :: r => .cons (.int i) (Reps.ints r)
theorem Reps.ofInts : ∀ {ds : List D} {vs : List V} {ns : List Int}, Reps K W H ds vs → ints? ds = some ns → vs = ns.map V.int
  | _, _, ns, .nil, e => by simp [ints?] at e; subst e; rfl
  | _, _, ns, .cons (d := d) h t, e => by
    cases h with
    | int i =>
      simp only [ints?, jo2] at e
      obtain ⟨ms, e1, rfl⟩ := e
      rw [Reps.ofInts t e1]; rfl
    | _ => simp [ints?] at e
theorem ORep.ext {d : D} {o : HO} (h : ORep K W H d o) (x : Ext W H W' H') : ORep K W' H' d o := by
  cases h with
  | lst r => exact .lst (r.ext x)
  | dK l r => exact .dK l (r.ext x)
  | dT l r => exact .dT l (r.ext x)
theorem ORep.less {d : D} {o : HO} (h : ORep K W H d o) (x : ∀ a, W' a → W a) : ORep K W' H d o := by
  cases h with
  | lst r => exact .lst (r.less x)
  | dK l r => exact .dK l (r.less x)
  | dT l r => exact .dT l (r.less x)
theorem ORep.plain {d : D} {o : HO} (h : ORep K W H d o) (p : xQ d = true) : ORep K W' H d o := by
  cases h with
  | lst r => exact .lst (r.plain p)
  | dK l r => exact .dK l (r.plain p)
  | dT l r => exact .dT l (r.plain p)
theorem ORep.rep {d : D} {o : HO} {a : Addr} (h : ORep K W H d o) (n : ¬ W a) (e : H a = some o) : Rep K W H d (.ref a) := by
  cases h with
  | lst r => exact .lst (.inl ⟨n, .inl e⟩) r
  | dK l r => exact .dK n (.inl e) l r
  | dT l r => exact .dT n e l r
theorem ORep.kind {d : D} {o : HO} (h : ORep K W H d o) : (∀ xs, o ≠ .tup xs) ∧ (∀ b u, o ≠ .frz b u) := by
  cases h <;> exact ⟨fun _ z => (nomatch z), fun _ _ z => (nomatch z)⟩
noncomputable def add (W : Addr → Prop) (a : Addr) : Addr → Prop := fun b => W b ∨ b = a
inductive Frz (K : PySem.W.Frag) (W : Addr → Prop) (H : Hp) : SV → V → Prop where
  | val {d : D} {v : V} (h : Rep K W H d v) : Frz K W H (.val d) v
  | lis {d : D} {a : Addr} {o : HO} (h : ¬ W a) (e : H a = some o) (r : ORep K W H d o) : Frz K W H (.obj true d) (.ref a)
  | see {d : D} {a : Addr} {o : HO} (h : W a) (e : H a = some o) (r : ORep K W H d o) : Frz K W H (.obj false d) (.ref a)
inductive Res (K : PySem.W.Frag) (W : Addr → Prop) (H H' : Hp) : SV → V → Prop where
  | val {d : D} {v : V} (h : Rep K W H' d v) : Res K W H H' (.val d) v
  | new {d : D} {a : Addr} {o : HO} (h : H a = Option.none) (e : H' a = some o) (r : ORep K (add W a) H' d o) : Res K W H H' (.obj true d) (.ref a)
  | see {d : D} {a : Addr} {o : HO} (h : W a) (e : H' a = some o) (r : ORep K W H' d o) : Res K W H H' (.obj false d) (.ref a)
noncomputable def Wf (W : Addr → Prop) (H : Hp) : Prop := ∀ a, W a → H a ≠ Option.none
theorem Res.frz {r : SV} {v : V} (h : Res K W H H' r v) (wf : Wf W H) : Frz K W H' r v := by
  cases h with
  | val h => exact .val h
  | new h e r => exact .lis (fun w => wf _ w h) e (r.less fun b w => .inl w)
  | see h e r => exact .see h e r
theorem Frz.same {r : SV} {v : V} (h : Frz K W H r v) (s : Same H H') : Frz K W H' r v := by
  cases h with
  | val h => exact .val (h.ext (.same s))
  | lis h e r => exact .lis h (s _ _ e) (r.ext (.same s))
  | see h e r => exact .see h (s _ _ e) (r.ext (.same s))
noncomputable def Sees (K : PySem.W.Frag) (W : Addr → Prop) (H : Hp) (d : D) (v : V) : Prop :=
  Rep K W H d v ∨ ∃ a o, v = .ref a ∧ H a = some o ∧ ORep K W H d o
theorem Frz.sees {r : SV} {v : V} (h : Frz K W H r v) : Sees K W H (zq r) v := by
  cases h with
  | val h => exact .inl h
  | lis h e r => exact .inr ⟨_, _, rfl, e, r⟩
  | see h e r => exact .inr ⟨_, _, rfl, e, r⟩
theorem Sees.lst {ds : List D} {v : V} (h : Sees K W H (.lst ds) v) : ∃ a xs, v = .ref a ∧ SqL K H a xs ∧ Reps K W H ds xs := by
  rcases h with h | ⟨a, o, rfl, e, r⟩
  · cases h with
    | lst h r =>
      rcases h with ⟨_, h⟩ | h
      · exact ⟨_, _, rfl, .inl h, r⟩
      · exact ⟨_, _, rfl, .inr h, r⟩
  · cases r with
    | lst r => exact ⟨_, _, rfl, .of e, r⟩
theorem Sees.tupH {ds : List D} {v : V} (h : Sees K W H (.tup ds) v) : ∃ a xs, v = .ref a ∧ H a = some (.tup xs) ∧ Reps K W H ds xs := by
  rcases h with h | ⟨a, o, rfl, e, r⟩
  · cases h with
    | tup h r => exact ⟨_, _, rfl, h, r⟩
  · cases r
theorem Sees.tup {ds : List D} {v : V} (h : Sees K W H (.tup ds) v) : ∃ a xs, v = .ref a ∧ SqT K H a xs ∧ Reps K W H ds xs := by
  obtain ⟨a, xs, e, h, r⟩ := h.tupH
  exact ⟨a, xs, e, .of h, r⟩
theorem Sees.dK {ks vs : List D} {v : V} (h : Sees K W H (.dct false ks vs) v) : ∃ a ns ys, v = .ref a ∧ ks = ns.map D.int ∧ Rd H a (.dK (zT ns ys)) ∧ ns.length = ys.length ∧ Reps K W H vs ys := by
  rcases h with h | ⟨a, o, rfl, e, r⟩
  · cases h with
    | dK n h l r => exact ⟨_, _, _, rfl, rfl, h, l, r⟩
  · cases r with
    | dK l r => exact ⟨_, _, _, rfl, rfl, .inl e, l, r⟩
theorem Sees.dT {ks vs : List D} {v : V} (h : Sees K W H (.dct true ks vs) v) : ∃ a ns ys, v = .ref a ∧ ks = ns.map kT ∧ H a = some (.dT (xh ns ys)) ∧ ns.length = ys.length ∧ Reps K W H vs ys := by
  rcases h with h | ⟨a, o, rfl, e, r⟩
  · cases h with
    | dT n h l r => exact ⟨_, _, _, rfl, rfl, h, l, r⟩
  · cases r with
    | dT l r => exact ⟨_, _, _, rfl, rfl, e, l, r⟩
theorem Sees.int {i : Int} {v : V} (h : Sees K W H (.int i) v) : v = .int i := by
  rcases h with h | ⟨a, o, rfl, e, r⟩
  · cases h; rfl
  · cases r
theorem Sees.bl {i : Bool} {v : V} (h : Sees K W H (.bl i) v) : v = .bl i := by
  rcases h with h | ⟨a, o, rfl, e, r⟩
  · cases h; rfl
  · cases r
theorem Sees.str {i : Str} {v : V} (h : Sees K W H (.str i) v) : v = .str i := by
  rcases h with h | ⟨a, o, rfl, e, r⟩
  · cases h; rfl
  · cases r
theorem Sees.non {v : V} (h : Sees K W H .non v) : v = .non := by
  rcases h with h | ⟨a, o, rfl, e, r⟩
  · cases h; rfl
  · cases r
theorem Frz.toD {r : SV} {v : V} {d : D} (h : Frz K W H r v) (e : LW.toD r = some d) : Rep K W H d v := by
  cases h with
  | val h => simp [LW.toD] at e; subst e; exact h
  | lis h e' r => simp [LW.toD] at e; subst e; exact r.rep h e'
  | see h e' r => simp [LW.toD] at e
noncomputable def xo (ρ : LW.Env) (σ : St) (a : Addr) : Prop := ∃ (i : Nat) (x : SV) (d : D), ρ[i]? = some (some x) ∧ x.cell = some d ∧ σ[i]? = some (some (.ref a))
structure R (K : PySem.W.Frag) (W : Addr → Prop) (ρ : LW.Env) (σ : St) (H : Hp) : Prop where
  val : ∀ (i : Nat) (d : D), ρ[i]? = some (some (.val d)) → ∃ v, σ[i]? = some (some v) ∧ Rep K W H d v
  nol : ∀ (i : Nat) (d : D), ρ[i]? ≠ some (some (.obj false d))
  own : ∀ (i : Nat) (x : SV) (d : D), ρ[i]? = some (some x) → x.cell = some d → ∃ a o, σ[i]? = some (some (.ref a)) ∧ W a ∧ H a = some o ∧ ORep K W H d o
  inj : ∀ (i j : Nat) (x y : SV) (d e : D) (a : Addr), ρ[i]? = some (some x) → ρ[j]? = some (some y) → x.cell = some d → y.cell = some e → σ[i]? = some (some (.ref a)) → σ[j]? = some (some (.ref a)) → i = j
  wf : Wf W H
  len : ρ.length = σ.length
theorem R.ownW {ρ : LW.Env} {σ : St} (r : R K W ρ σ H) {a : Addr} (o : xo ρ σ a) : W a ∧ ∃ o d, H a = some o ∧ ORep K W H d o := by
  obtain ⟨i, x, d, h1, h2, h3⟩ := o
  obtain ⟨b, o, e, w, q, z⟩ := r.own i x d h1 h2
  rw [h3] at e; cases e
  exact ⟨w, o, d, q, z⟩
theorem R.same {ρ : LW.Env} {σ : St} (r : R K W ρ σ H) (s : Same H H') : R K W ρ σ H' := by
  refine ⟨fun i d h => ?_, r.nol, fun i x d h h' => ?_, r.inj, fun a w => ?_, r.len⟩
  · obtain ⟨v, h1, h2⟩ := r.val i d h
    exact ⟨v, h1, h2.ext (.same s)⟩
  · obtain ⟨a, o, h1, h2, h3, h4⟩ := r.own i x d h h'
    exact ⟨a, o, h1, h2, s _ _ h3, h4.ext (.same s)⟩
  · cases e : H a with
    | none => exact absurd e (r.wf a w)
    | some o => rw [s a o e]; exact fun z => nomatch z
theorem R.look {ρ : LW.Env} {σ : St} (r : R K W ρ σ H) {i : Nat} {x : SV} (h : look ρ i = some x) : ∃ v, σ[i]? = some (some v) ∧ Frz K W H x v ∧ Res K W H H x v := by
  unfold LW.look at h
  split at h
  · rename_i d e
    cases h
    obtain ⟨v, h1, h2⟩ := r.val i d e
    exact ⟨v, h1, .val h2, .val h2⟩
  · rename_i o d e
    cases h
    cases o with
    | false => exact absurd e (r.nol i d)
    | true =>
      obtain ⟨a, o, h1, h2, h3, h4⟩ := r.own i _ d e rfl
      exact ⟨_, h1, .see h2 h3 h4, .see h2 h3 h4⟩
  · rename_i d e
    cases h
    obtain ⟨a, o, h1, h2, h3, h4⟩ := r.own i _ d e rfl
    exact ⟨_, h1, .see h2 h3 h4, .see h2 h3 h4⟩
  · cases h
noncomputable def xi (ρ : LW.Env) (i : Nat) : Prop := ∃ d, ρ[i]? = some (some (.io d))
theorem Yh {ρ : LW.Env} {i : Nat} (h : LW.free ρ i = true) : ¬ xi ρ i := fun zz0 => by
  obtain ⟨d, e⟩ := zz0
  unfold LW.free at h; rw [e] at h; cases h
structure SPost (K : PySem.W.Frag) (W : Addr → Prop) (ρ : LW.Env) (σ : St) (H : Hp) (W' : Addr → Prop) (ρ' : LW.Env) (σ' : St) (H' : Hp) : Prop where
  r : R K W' ρ' σ' H'
  keep : ∀ a o, H a = some o → ¬ xo ρ σ a → H' a = some o
  win : ∀ a, W' a → W a ∨ H a = Option.none
  wout : ∀ a, W a → ¬ xo ρ σ a → W' a ∧ ¬ xo ρ' σ' a
  io : ∀ i, (xi ρ' i ↔ xi ρ i) ∧ (xi ρ i → σ'[i]? = σ[i]?)
theorem SPost.trans {W1 W2 : Addr → Prop} {ρ ρ1 ρ2 : LW.Env} {σ σ1 σ2 : St} {H1 H2 : Hp} (x : SPost K W ρ σ H W1 ρ1 σ1 H1) (y : SPost K W1 ρ1 σ1 H1 W2 ρ2 σ2 H2) (r0 : R K W ρ σ H) : SPost K W ρ σ H W2 ρ2 σ2 H2 := by
  have no1 : ∀ a o, H a = some o → ¬ xo ρ σ a → ¬ xo ρ1 σ1 a := fun a o h n z => by
    rcases x.win a (x.r.ownW z).1 with w | w
    · exact (x.wout a w n).2 z
    · rw [h] at w; cases w
  refine ⟨y.r, fun a o h n => y.keep a o (x.keep a o h n) (no1 a o h n), fun a w => ?_, fun a w n => ?_, fun i => ⟨(y.io i).1.trans (x.io i).1, fun z => ((y.io i).2 ((x.io i).1.mpr z)).trans ((x.io i).2 z)⟩⟩
  · rcases y.win a w with q | q
    · exact x.win a q
    · cases e : H a with
      | none => exact .inr rfl
      | some o =>
        by_cases n : xo ρ σ a
        · exact .inl (r0.ownW n).1
        · rw [x.keep a o e n] at q; cases q
  · obtain ⟨w1, n1⟩ := x.wout a w n
    exact y.wout a w1 n1
theorem SPost.ext {W1 : Addr → Prop} {ρ ρ1 : LW.Env} {σ σ1 : St} {H1 : Hp} (x : SPost K W ρ σ H W1 ρ1 σ1 H1) (r0 : R K W ρ σ H) : Ext W H W1 H1 := by
  refine ⟨fun a o h n => x.keep a o h fun z => n (r0.ownW z).1, fun a xs h => x.keep a _ h fun z => ?_, fun a o u h => x.keep a _ h fun z => ?_, x.win⟩
  · obtain ⟨_, o, d, e, q⟩ := r0.ownW z
    rw [h] at e; cases e; exact q.kind.1 xs rfl
  · obtain ⟨_, o, d, e, q⟩ := r0.ownW z
    rw [h] at e; cases e; exact q.kind.2 _ _ rfl
theorem SPost.same {ρ : LW.Env} {σ : St} (r0 : R K W ρ σ H) (s : Same H H') : SPost K W ρ σ H W ρ σ H' :=
  ⟨r0.same s, fun a o h _ => s a o h, fun a w => .inl w, fun a w n => ⟨w, n⟩, fun _ => ⟨.rfl, fun _ => rfl⟩⟩
end
noncomputable def zhu (ρ : LW.Env) (σ : St) (a : Addr) : Prop := ∃ i, xi ρ i ∧ σ[i]? = some (some (.ref a))
inductive Ret (K : PySem.W.Frag) (W : Addr → Prop) (ρ : LW.Env) (σ : St) (W' : Addr → Prop) (H' : Hp) : SV → V → Prop where
  | val {d : D} {v : V} (h : Rep K W' H' d v) : Ret K W ρ σ W' H' (.val d) v
  | new {d : D} {a : Addr} {o : HO} (h : W' a) (n : ¬ (W a ∧ ¬ xo ρ σ a)) (n' : ¬ zhu ρ σ a) (e : H' a = some o) (r : ORep K W' H' d o) : Ret K W ρ σ W' H' (.obj true d) (.ref a)
noncomputable def tE (K : PySem.W.Frag) (fn : Nat → List D → Option SV) (c : E) : TE := fun σ H Q => ∃ W ρ r, R K W ρ σ H ∧ zg fn c ρ = some r ∧ ∀ v H', Same H H' → Res K W H H' r v → Q v H'
noncomputable def tV (K : PySem.W.Frag) (fn : Nat → List D → Option SV) (c : E) : TE := fun σ H Q => ∃ W ρ r, R K W ρ σ H ∧ zg fn c ρ = some r ∧ ∀ v H', Same H H' → Frz K W H' r v → Q v H'
noncomputable def Qw (K : PySem.W.Frag) (fn : Nat → List D → Option SV) (cs : Es) : TA := fun σ H Q => ∃ W ρ rs, R K W ρ σ H ∧ zM fn cs ρ = some rs ∧ ∀ vs H', Same H H' → Paired (Frz K W H') rs vs → Q vs H'
noncomputable def tT (K : PySem.W.Frag) (fn : Nat → List D → Option SV) (c : E) : TT := fun σ H Q => ∃ W ρ b, R K W ρ σ H ∧ zv fn c ρ = some b ∧ ∀ H', Same H H' → Q b H'
noncomputable def FlOk (K : PySem.W.Frag) (W : Addr → Prop) (ρ : LW.Env) (σ : St) (W' : Addr → Prop) (ρ' : LW.Env) (σ' : St) (H' : Hp) (D : Ends) : Fl → Prop
  | .nx => D.nx σ' H'
  | .br => D.bk σ' H'
  | .ct => D.ct σ' H'
  | .rt r => ∀ v, Ret K W ρ σ W' H' r v → D.rt v H'
noncomputable def Yi (K : PySem.W.Frag) (ex : LW.Env → Option (Fl × LW.Env)) : TS := fun D σ H => ∃ W ρ x, R K W ρ σ H ∧ ex ρ = some x ∧ ∀ W' σ' H', SPost K W ρ σ H W' x.2 σ' H' → FlOk K W ρ σ W' x.2 σ' H' D x.1
theorem _root_.L2.PE.imp {X : Cx} {e : Expr} {t t' : TE} (h : PE X e t) (i : ∀ σ H Q, t' σ H Q → t σ H Q) : PE X e t' := fun pins s σ H Q I q => h pins s σ H Q I (i σ H Q q)
theorem _root_.L2.PT.imp {X : Cx} {e : Expr} {t t' : TT} (h : PT X e t) (i : ∀ σ H Q, t' σ H Q → t σ H Q) : PT X e t' := fun pins s σ H Q I q => h pins s σ H Q I (i σ H Q q)
theorem _root_.L2.PW.imp {X : Cx} {e : Expr} {t t' : TT} (h : PW X e t) (i : ∀ σ H Q, t' σ H Q → t σ H Q) : PW X e t' := fun wh pins s σ H Q I q => h wh pins s σ H Q I (i σ H Q q)
theorem _root_.L2.PA.imp {X : Cx} {e : List Expr} {t t' : TA} (h : PA X e t) (i : ∀ σ H Q, t' σ H Q → t σ H Q) : PA X e t' := fun pos pins s σ H Q I q => h pos pins s σ H Q I (i σ H Q q)
theorem _root_.L2.PS.imp {X : Cx} {e : Stmt} {t t' : TS} (h : PS X e t) (i : ∀ D σ H, t' D σ H → t D σ H) : PS X e t' := fun pins s σ H D I q => h pins s σ H D I (i D σ H q)
theorem _root_.L2.PSs.imp {X : Cx} {e : List Stmt} {t t' : TS} (h : PSs X e t) (i : ∀ D σ H, t' D σ H → t D σ H) : PSs X e t' := fun pins s σ H D I q => h pins s σ H D I (i D σ H q)
end L2.LW
set_option maxHeartbeats 4000000
namespace HT
open PySem PyProof.Rows
theorem zhv : Slot "tuple" (cmpInfo .Gt).2.1 "tuple.__gt__" :=
  .of (owner := "tuple") (n := "__gt__") (by rw [typeLookup_type, builtinLookup_eq_fast]; kernel_rfl) (by decide +kernel) (by decide +kernel) (by decide +kernel)
    (by first | exact .inl (by decide +kernel) | exact .inr (by decide +kernel)) (by rw [isSubtype_type]; kernel_rfl)
theorem zhw : entryFor table "tuple.__gt__" = some Builtin.«tuple.__gt__» := entryFor_of_tree (by kernel_rfl)
theorem zhx (a b : Value) : argsOk "tuple.__gt__" ⟨[a, b], []⟩ := by
  unfold argsOk; rw [signature?_of (id := "tuple.__gt__") (n := ['_', '_', 't', 'g', '_', '_']) (o := ['e', 'l', 'p', 'u', 't']) (by kernel_rfl) PySem.F.owner_tuple]; kernel_rfl
theorem zhy (A : Around) (s : Shared) (a : Int) (t : Tok) (c : Int) (u : Tok) (prog : Program) (w : World) (E : Value → Shared → Prop) (Q : Value → Shared → Prop) (h : Q (.bool (decide (c < a))) s) :
    wpAny (model prog w) A (richCompare .Gt (.int a t) (.int c u)) Q E s :=
  (PyProof.Rows.gt_int h : wpAny (model prog w) A (compareOp .Gt (.int a t) (.int c u)) Q E s)
section
open PySem.SeqAt
open PySem.AutoSeq1 (wpAny_loadPart')
open PySem.MeetsSeq PySem.MeetsSeq2 PySem.MeetsSeq3
theorem zhz (l b : Addr) (items items2 : Array Value) (n n2 : Nat) (dd dd2 : Option Addr) (sl sl2 : Array (Option Value)) (ns ms : List Int) (hi : IntsAre items.toList ns) (hj : IntsAre items2.toList ms) :
    Meets (Builtin.«tuple.__gt__» ⟨[.ref l, .ref b], []⟩)
      (fun _ R s => s.heap.get? l = some { cls := .type "tuple", dict := dd, data := .seq items n, slots := sl } ∧ s.heap.get? b = some { cls := .type "tuple", dict := dd2, data := .seq items2 n2, slots := sl2 } ∧
        R (.ok (.ret (.bool (lexLt ms ns)))) s) :=
  .of_wp fun prog w A R s h => by
    obtain ⟨hp, g, d, tk, os⟩ := s; obtain ⟨hl, hb, h⟩ := h
    have f2 := AutoSeq1.sub_tuple_tuple
    have z1 : items.size = ns.length := by rw [← hi.length]; simp
    have z2 : items2.size = ms.length := by rw [← hj.length]; simp
    wp_walk using wpAny_loadPart' hl, wpAny_loadPart' hb, wpAny_forIn_list _ (fun zL b s' => b.1 = none ∧ s' = ⟨hp, g, d, tk, os⟩ ∧ ∃ (vs ws : List Value) (ns' ms' : List Int), zL = vs.zip ws ∧
      IntsAre vs ns' ∧ IntsAre ws ms' ∧ ns'.length + items2.size = ms'.length + items.size ∧ R (.ok (.ret (.bool (lexLt ms' ns')))) ⟨hp, g, d, tk, os⟩) _
    case turn =>
      rintro ⟨y, x⟩ zL b s' ⟨hb', rfl, vs, ws, ns', ms', hz, hvi, hwi, hlen, hR⟩
      cases hvi with
      | nil => rw [List.zip_nil_left] at hz; cases hz
      | cons a t hvi' =>
        cases hwi with
        | nil => rw [List.zip_nil_right] at hz; cases hz
        | cons c u hwi' =>
          rw [List.zip_cons_cons] at hz
          injection hz with hyx hrest
          injection hyx with hy hx
          subst hy hx
          rw [lexLt_cons] at hR
          simp only [List.length_cons] at hlen
          obtain ⟨e, he, hiff⟩ := gN A.in1 ⟨hp, g, d, tk, os⟩ a t c u
          refine wpAny_bind (he prog w _ _ ?_)
          cases e with
          | true =>
            rw [if_pos (hiff.mp rfl).symm] at hR
            wp_walk
            exact ⟨rfl, rfl, _, _, _, _, hrest, hvi', hwi', by omega, hR⟩
          | false =>
            rw [if_neg (fun q => absurd (hiff.mpr q.symm) Bool.false_ne_true)] at hR
            have hri := zhy A.in1 ⟨hp, g, d, tk, os⟩ a t c u prog w
            wp_walk using hri
            exact ⟨_, rfl, by simpa using hR⟩
    case fin =>
      rintro ⟨b1, b2⟩ s' ⟨hb', rfl, vs, ws, ns', ms', hz, hvi, hwi, hlen, hR⟩
      simp only at hb'
      subst hb'
      have hv : (lexLt ms' ns') = decide (items.size > items2.size) := by
        cases hvi with
        | nil =>
          cases hwi with
          | nil =>
            simp only [List.length_nil] at hlen
            rw [gK]
            exact (decide_eq_false (by omega)).symm
          | cons c u hw =>
            simp only [List.length_nil, List.length_cons] at hlen
            rw [gM]
            exact (decide_eq_false (by omega)).symm
        | cons a t hv =>
          cases hwi with
          | nil =>
            simp only [List.length_nil, List.length_cons] at hlen
            rw [gL]
            exact (decide_eq_true (by omega)).symm
          | cons c u hw =>
            rw [List.zip_cons_cons] at hz
            cases hz
      rw [hv] at hR
      wp_walk
      exact ⟨_, rfl, by simpa [Builtin.Tuple.tupleCompareSizes] using hR⟩
    case h =>
      exact ⟨rfl, rfl, items.toList, items2.toList, ns, ms, rfl, hi, hj, by omega, h⟩
end
section
variable {prog : Program} {w : World} {A : Around} {E : Value → Shared → Prop} {s : Shared}
theorem gt_tupInts {l b : Addr} {items items2 : Array Value} {ns ms : List Int} {Q : Value → Shared → Prop} (hl : IsTup s.heap l items) (hb : IsTup s.heap b items2) (hi : IntsAre items.toList ns) (hj : IntsAre items2.toList ms)
    (hu : A.units < cLine) (h : Q (.bool (lexLt ms ns)) s) : wpAny (model prog w) A (compareOp .Gt (.ref l) (.ref b)) Q E s := by
  obtain ⟨⟨cls, dd, data, sl⟩, ho, hc, n, hd⟩ := id hl
  obtain ⟨⟨cls2, dd2, data2, sl2⟩, ho2, hc2, n2, hd2⟩ := id hb
  simp only at hc hd hc2 hd2
  subst hc hd hc2 hd2
  exact richCompare_meets_room (op := .Gt) ⟨_, ho, rfl⟩ ⟨_, ho2, rfl⟩ zhv zhw (zhx _ _) (zhz l b items items2 n n2 dd dd2 sl sl2 ns ms hi hj)
    ⟨ho, ho2, show Value.bool (lexLt ms ns) ≠ Value.notImplemented ∧ Q (.bool (lexLt ms ns)) s from ⟨(fun x => nomatch x), h⟩⟩ hu
end
end HT
set_option maxHeartbeats 4000000
namespace L2.LW
open PySem PySem.Spec PyProof.Rows
noncomputable def VR (K : PySem.W.Frag) (f : List D → Option SV) (vs : List V) (H : Hp) (Q : VK) : Prop :=
  ∃ W ds r, Wf W H ∧ Paired (Sees K W H) ds vs ∧ f ds = some r ∧ ∀ v H', Same H H' → Res K W H H' r v → Q v H'
noncomputable def yw (K : PySem.W.Frag) (f : List D → Option SV) : R2 := fun x y H Q => VR K f [x, y] H Q
noncomputable def zaH (K : PySem.W.Frag) (f : List D → Option SV) : V → Hp → VK → Prop := fun x H Q => VR K f [x] H Q
theorem Qx {α β : Type} {F : α → β → Prop} {ds : List α} {x : β} (h : Paired F ds [x]) : ∃ d, ds = [d] ∧ F d x := by
  cases h with
  | cons h t => cases t; exact ⟨_, rfl, h⟩
theorem xp {α β : Type} {F : α → β → Prop} {ds : List α} {x y : β} (h : Paired F ds [x, y]) : ∃ d e, ds = [d, e] ∧ F d x ∧ F e y := by
  cases h with
  | cons h t =>
    obtain ⟨e, rfl, h2⟩ := Qx t
    exact ⟨_, e, rfl, h, h2⟩
mutual
noncomputable def zN : D → PyData
  | .int i => .int i
  | .bl b => .bool b
  | .non => .none
  | .str x => .str x
  | .tup l => .tuple (yR l)
  | .lst l => .list (yR l)
  | .dct _ _ _ => .dict []
noncomputable def yR : List D → List PyData
  | [] => []
  | x :: xs => zN x :: yR xs
end
mutual
theorem Vk : ∀ d e : D, PyData.eqv (zN d) (zN e) = zE d e
  | .int a, e => by cases e <;> simp [zN, PyData.eqv, zE]
  | .bl a, e => by cases e <;> simp [zN, PyData.eqv, zE]
  | .non, e => by cases e <;> simp [zN, PyData.eqv, zE]
  | .str a, e => by cases e <;> simp [zN, PyData.eqv, zE]
  | .tup l, e => by
    cases e with
    | tup m => simp only [zN, PyData.eqv, zE]; exact Qy l m
    | _ => simp [zN, PyData.eqv, zE]
  | .lst l, e => by
    cases e with
    | lst m => simp only [zN, PyData.eqv, zE]; exact Qy l m
    | _ => simp [zN, PyData.eqv, zE]
  | .dct t a b, e => by cases e <;> simp [zN, PyData.eqv, zE]
theorem Qy : ∀ ds es : List D, PyData.eqvAll (yR ds) (yR es) = yP ds es
  | [], [] => by simp [yR, PyData.eqvAll, yP]
  | [], _ :: _ => by simp [yR, PyData.eqvAll, yP]
  | _ :: _, [] => by simp [yR, PyData.eqvAll, yP]
  | x :: xs, y :: ys => by simp only [yR, PyData.eqvAll, yP]; rw [Vk x y, Qy xs ys]
end
theorem Yj {n : Nat} (ih : ∀ d, zD n d = true → (zN d).canLay0 = true ∧ (zN d).depth ≤ n) : ∀ l : List D, l.all (zD n) = true → PyData.canLayAll0 (yR l) = true ∧ PyData.depthAll (yR l) ≤ n
  | [], _ => by simp [yR, PyData.canLayAll0, PyData.depthAll]
  | x :: xs, h => by
    simp only [List.all_cons, Bool.and_eq_true] at h
    obtain ⟨h1, h2⟩ := ih x h.1
    obtain ⟨h3, h4⟩ := Yj ih xs h.2
    refine ⟨by simp [yR, PyData.canLayAll0, h1, h3], ?_⟩
    simp only [yR, PyData.depthAll]
    omega
theorem wq : ∀ (n : Nat) (d : D), zD n d = true → (zN d).canLay0 = true ∧ (zN d).depth ≤ n
  | _, .int _, _ => by simp [zN, PyData.canLay0, PyData.depth]
  | _, .bl _, _ => by simp [zN, PyData.canLay0, PyData.depth]
  | _, .non, _ => by simp [zN, PyData.canLay0, PyData.depth]
  | _, .str _, h => by simp [zD] at h
  | 0, .dct _ _ _, h => by simp [zD] at h
  | _ + 1, .dct _ _ _, h => by simp [zD] at h
  | 0, .tup _, h => by simp [zD] at h
  | 0, .lst _, h => by simp [zD] at h
  | n + 1, .tup l, h => by
    obtain ⟨h1, h2⟩ := Yj (wq n) l (by simpa [zD] using h)
    exact ⟨by simpa [zN, PyData.canLay0] using h1, by simp only [zN, PyData.depth]; omega⟩
  | n + 1, .lst l, h => by
    obtain ⟨h1, h2⟩ := Yj (wq n) l (by simpa [zD] using h)
    exact ⟨by simpa [zN, PyData.canLay0] using h1, by simp only [zN, PyData.depth]; omega⟩
theorem Qz (d : D) : ∀ l : List D, ((yR l).any fun y => PyData.eqv y (zN d)) = l.any fun y => zE y d
  | [] => by simp [yR]
  | x :: xs => by simp only [yR, List.any_cons]; rw [Vk x d, Qz d xs]
section
variable {X : Cx} {pins : List (Addr × Obj)} {σ : St} {H : Hp} {s : Shared} {W : Addr → Prop}
mutual
theorem Rep.reads (I : Inv X pins σ H s) : ∀ {n : Nat} {d : D} {x : V} {v : Value}, zD n d = true → Rep X.K W H d x → RelV x v → ∃ as, Reads s.heap v (zN d) as
  | _, _, _, _, _, .int i, r => by obtain ⟨t, rfl⟩ := r; exact ⟨_, .int _ _⟩
  | _, _, _, _, _, .bl b, r => by cases r; exact ⟨_, .bool _⟩
  | _, _, _, _, _, .non, r => by cases r; exact ⟨_, .none⟩
  | _, _, _, _, _, .str x, r => by obtain ⟨t, rfl⟩ := r; exact ⟨_, .str _ _⟩
  | 0, _, _, _, n, .tup h rs, r => by simp [zD] at n
  | 0, _, _, _, n, .lst h rs, r => by simp [zD] at n
  | _ + 1, _, _, _, n, .tup h rs, r => by
    cases r
    obtain ⟨its, rv, ⟨o, ho, hc, m, hd⟩, hz⟩ := I.tuple (.of h)
    obtain ⟨as, q⟩ := Reps.reads I (by simpa [zD] using n) rs rv
    exact ⟨as, by simp only [zN]; exact .tuple ho hc hd (by simpa using q)⟩
  | _ + 1, _, _, _, n, .lst h rs, r => by
    cases r
    obtain ⟨its, rv, ⟨o, m, ho, hc, _, hd⟩, hz⟩ := I.list (show SqL X.K H _ _ from h.elim (fun z => .inl z.2) fun z => .inr z)
    obtain ⟨as, q⟩ := Reps.reads I (by simpa [zD] using n) rs rv
    exact ⟨_, by simp only [zN]; exact .list ho hc hd (by simpa using q)⟩
  | 0, _, _, _, n, .dK _ _ _ _, r => by simp [zD] at n
  | 0, _, _, _, n, .dT _ _ _ _, r => by simp [zD] at n
  | _ + 1, _, _, _, n, .dK _ _ _ _, r => by simp [zD] at n
  | _ + 1, _, _, _, n, .dT _ _ _ _, r => by simp [zD] at n
theorem Reps.reads (I : Inv X pins σ H s) : ∀ {n : Nat} {ds : List D} {xs : List V} {vs : List Value}, ds.all (zD n) = true → Reps X.K W H ds xs → Vals xs vs → ∃ as, ReadsAll s.heap vs (yR ds) as
  | _, _, _, _, _, .nil, r => by cases r; exact ⟨_, by simp only [yR]; exact .nil⟩
  | _, _, _, _, n, .cons h t, r => by
    cases r with
    | cons r1 r2 =>
      simp only [List.all_cons, Bool.and_eq_true] at n
      obtain ⟨as, q1⟩ := Rep.reads I n.1 h r1
      obtain ⟨bs, q2⟩ := Reps.reads I n.2 t r2
      exact ⟨_, by simp only [yR]; exact .cons q1 q2⟩
end
theorem Sees.reads (I : Inv X pins σ H s) {n : Nat} {d : D} {x : V} {v : Value} (hn : zD n d = true) (h : Sees X.K W H d x) (r : RelV x v) : ∃ as, Reads s.heap v (zN d) as := by
  rcases h with h | ⟨a, o, rfl, e, rs⟩
  · exact h.reads I hn r
  · cases r
    cases rs with
    | lst rs =>
      obtain ⟨its, rv, ⟨o, m, ho, hc, _, hd⟩, hz⟩ := I.list (show SqL X.K H _ _ from .of e)
      cases n with
      | zero => simp [zD] at hn
      | succ n =>
        obtain ⟨as, q⟩ := rs.reads I (n := n) (by simpa [zD] using hn) rv
        exact ⟨_, by simp only [zN]; exact .list ho hc hd (by simpa using q)⟩
    | dK l r => cases n <;> simp [zD] at hn
    | dT l r => cases n <;> simp [zD] at hn
theorem Sees.readsL (I : Inv X pins σ H s) {n : Nat} {l : List D} {x : V} {v : Value} (hn : l.all (zD n) = true) (h : Sees X.K W H (.lst l) x) (r : RelV x v) : ∃ as, Reads s.heap v (zN (.lst l)) as :=
  h.reads I (n := n + 1) (by simpa [zD] using hn) r
theorem Sees.readsT (I : Inv X pins σ H s) {n : Nat} {l : List D} {x : V} {v : Value} (hn : l.all (zD n) = true) (h : Sees X.K W H (.tup l) x) (r : RelV x v) : ∃ as, Reads s.heap v (zN (.tup l)) as :=
  h.reads I (n := n + 1) (by simpa [zD] using hn) r
end
theorem yx {H : Hp} {p : Addr} (h : H p = Option.none) (o : HO) : Same H (zr H p o) := fun b u q => by rw [zw (wN q h)]; exact q
theorem jm {K : PySem.W.Frag} {W : Addr → Prop} {H : Hp} {p : Addr} {ds : List D} {xs : List V} (hp : H p = Option.none) (r : Reps K W H ds xs) : Res K W H (zr H p (.lst xs)) (.lis true ds) (.ref p) := by
  refine .new hp yf (.lst (r.ext ⟨fun a o h _ => yx hp _ a o h, fun a xs h => yx hp _ a _ h, fun a o u h => yx hp _ a _ h, fun a w => ?_⟩))
  rcases w with w | rfl
  · exact .inl w
  · exact .inr hp
theorem zaI {K : PySem.W.Frag} {W : Addr → Prop} {H : Hp} {p : Addr} {ds : List D} {xs : List V} (hp : H p = Option.none) (r : Reps K W H ds xs) : Res K W H (zr H p (.tup xs)) (.val (.tup ds)) (.ref p) :=
  .val (.tup yf (r.ext (.same (yx hp _))))
section
variable {X : Cx}
theorem vz : line = sizeLine := by rw [sizeLine_eq]; rfl
theorem Yk : ∀ {l : List D} {ns : List Int}, ints? l = some ns → l = ns.map D.int
  | [], ns, e => by simp [ints?] at e; subst e; rfl
  | d :: r, ns, e => by
    cases d with
    | int i =>
      simp only [ints?, jo2] at e
      obtain ⟨ms, e1, rfl⟩ := e
      rw [Yk e1]; rfl
    | _ => simp [ints?] at e
theorem QA (ns : List Int) : (ns.map Sum.inl).map kV = ns.map V.int := by
  rw [List.map_map]; rfl
theorem Vl : ∀ (a b : List Int), yP (a.map D.int) (b.map D.int) = decide (a = b)
  | [], [] => by simp [yP]
  | [], _ :: _ => by simp [yP]
  | _ :: _, [] => by simp [yP]
  | x :: xs, y :: ys => by
    rw [Bool.eq_iff_iff]
    simp [yP, zE, Vl xs ys]
theorem zaJ {a b : List Int} (h : (a.map Sum.inl : List zn) = b.map Sum.inl) : a = b := (List.map_inj_right (fun _ _ z => Sum.inl.inj z)).mp h
theorem zaK (k d : D) (ks : List D) : yo (d :: ks) k = if zE d k then some 0 else (yo ks k).map (· + 1) := by
  unfold yo; rw [List.findIdx?_cons]
theorem Ym : ∀ {ns : List Int} {ys : List V}, ns.length = ys.length → ∀ i : Int, yh (zT ns ys) (.inl i) = (yo (ns.map D.int) (.int i)).bind fun j => ys[j]?
  | [], [], _, i => rfl
  | n :: ns, y :: ys, h, i => by
    have ih := Ym (ns := ns) (ys := ys) (by simpa using h) i
    show yh ((Sum.inl n, y) :: zT ns ys) (.inl i) = _
    rw [List.map_cons, zaK]
    by_cases e : n = i
    · rw [jP (by simp [e])]; simp [zE, e]
    · rw [jQ (by simp [e]), ih]
      have : zE (.int n) (.int i) = false := by simp [zE, e]
      rw [this]
      cases yo (ns.map D.int) (.int i) <;> simp
theorem QB : ∀ {ns : List (List Int)} {ys : List V}, ns.length = ys.length → ∀ i : List Int, yh (xh ns ys) (i.map Sum.inl) = (yo (ns.map kT) (kT i)).bind fun j => ys[j]?
  | [], [], _, i => rfl
  | n :: ns, y :: ys, h, i => by
    have ih := QB (ns := ns) (ys := ys) (by simpa using h) i
    show yh ((n.map Sum.inl, y) :: xh ns ys) (i.map Sum.inl) = _
    rw [List.map_cons, zaK]
    by_cases e : n = i
    · rw [jP (by simp [e])]
      have : zE (kT n) (kT i) = true := by simp [kT, zE, Vl, e]
      rw [this]; rfl
    · rw [jQ (fun z => e (zaJ z)), ih]
      have : zE (kT n) (kT i) = false := by simp [kT, zE, Vl, e]
      rw [this]
      cases yo (ns.map kT) (kT i) <;> simp
theorem zaL {ks : List D} {k : D} {j : Nat} (h : yo ks k = some j) : j < ks.length := by
  unfold yo at h
  obtain ⟨h1, _⟩ := List.findIdx?_eq_some_iff_getElem.mp h
  exact h1
theorem zaM {ns : List Int} {ys : List V} (h : ns.length = ys.length) {i : Int} : (yh (zT ns ys) (.inl i)).isSome = (yo (ns.map D.int) (.int i)).isSome := by
  rw [Ym h]
  cases e : yo (ns.map D.int) (.int i) with
  | none => rfl
  | some j => have := zaL e; simp at this; simp; omega
theorem zaN {ns : List (List Int)} {ys : List V} (h : ns.length = ys.length) {i : List Int} : (yh (xh ns ys) (i.map Sum.inl)).isSome = (yo (ns.map kT) (kT i)).isSome := by
  rw [QB h]
  cases e : yo (ns.map kT) (kT i) with
  | none => rfl
  | some j => have := zaL e; simp at this; simp; omega
theorem QC {K : PySem.W.Frag} {W : Addr → Prop} {H : Hp} {ns : List Int} {ys : List V} {vs : List D} {i : Int} {d : D} (h : ns.length = ys.length) (r : Reps K W H vs ys) (e : dget (ns.map D.int) vs (.int i) = some d) : ∃ y, yh (zT ns ys) (.inl i) = some y ∧ Rep K W H d y := by
  unfold dget at e
  rw [jo1] at e
  obtain ⟨j, e1, e2⟩ := e
  obtain ⟨y, e3, e4⟩ := r.get e2
  exact ⟨y, by rw [Ym h, e1]; exact e3, e4⟩
theorem zhA {K : PySem.W.Frag} {W : Addr → Prop} {H : Hp} {ns : List (List Int)} {ys : List V} {vs : List D} {i : List Int} {d : D} (h : ns.length = ys.length) (r : Reps K W H vs ys) (e : dget (ns.map kT) vs (kT i) = some d) : ∃ y, yh (xh ns ys) (i.map Sum.inl) = some y ∧ Rep K W H d y := by
  unfold dget at e
  rw [jo1] at e
  obtain ⟨j, e1, e2⟩ := e
  obtain ⟨y, e3, e4⟩ := r.get e2
  exact ⟨y, by rw [QB h, e1]; exact e3, e4⟩
theorem xU : OpR X (binaryOp .Add) (yw X.K (ze .add)) := by
  rintro pins s σ H x y v u Q I rx ry ⟨W, ds, r, wf, hs, hf, q⟩
  obtain ⟨d, e, rfl, h1, h2⟩ := xp hs
  replace hf : XW [d, e] = some r := hf
  unfold XW at hf
  split at hf
  · rename_i a b z; cases z; cases hf
    cases h1.int; cases h2.int
    exact zfr pins s σ H _ _ v u Q I rx ry ⟨_, _, rfl, rfl, q _ H (.refl H) (.val (.int _))⟩
  · rename_i a b z; cases z
    split at hf
    · rename_i hl
      cases hf
      obtain ⟨p, xs, rfl, hp, rp⟩ := h1.lst
      obtain ⟨p2, xs2, rfl, hp2, rp2⟩ := h2.lst
      cases rx; cases ry
      obtain ⟨its, rv, ⟨⟨c1, d1, da1, sl1⟩, n, ho, hc, hdd, hd⟩, hz⟩ := I.list hp
      obtain ⟨its2, rv2, ⟨⟨c2, d2, da2, sl2⟩, n2, ho2, hc2, hdd2, hd2⟩, hz2⟩ := I.list hp2
      simp only at hc hd hdd hc2 hd2 hdd2
      subst hc hd hdd hc2 hd2 hdd2
      have l1 := rv.length
      have l2 := rv2.length
      have l3 := rp.length
      have l4 := rp2.length
      have le := vz
      refine concat_meets ⟨_, ho, rfl⟩ ⟨_, ho2, rfl⟩ noFill_list_add seq_list_add PySem.F.slot_list_add PySem.F.entry_list_add (PySem.F.args_list_add_2 _ _) (list_addW p p2 its.toArray its2.toArray n n2 Option.none Option.none sl1 sl2 (by simp; omega)) ⟨ho, ho2, ?_⟩
      have e : its.toArray ++ its2.toArray = (its ++ its2).toArray := by simp
      rw [e]
      exact ⟨.ref _, _, I.lnew (t' := s.toks) (rv.append rv2) (by rw [List.length_append]; omega), rfl, q _ _ (yx I.fresh _) (jm I.fresh (rp.append rp2))⟩
    · cases hf
  · cases hf
theorem xW : OpR X (binaryOp .Sub) (yw X.K (ze .sub)) := by
  rintro pins s σ H x y v u Q I rx ry ⟨W, ds, r, wf, hs, hf, q⟩
  obtain ⟨d, e, rfl, h1, h2⟩ := xp hs
  replace hf : Qf [d, e] = some r := hf
  unfold Qf at hf
  split at hf
  · rename_i a b z; cases z; cases hf
    cases h1.int; cases h2.int
    exact zfs pins s σ H _ _ v u Q I rx ry ⟨_, _, rfl, rfl, q _ H (.refl H) (.val (.int _))⟩
  · cases hf
theorem jZ : OpR X (binaryOp .Mult) (yw X.K (ze .mul)) := by
  rintro pins s σ H x y v u Q I rx ry ⟨W, ds, r, wf, hs, hf, q⟩
  obtain ⟨d, e, rfl, h1, h2⟩ := xp hs
  replace hf : XX [d, e] = some r := hf
  unfold XX at hf
  split at hf
  · rename_i a b z; cases z
    split at hf
    · rename_i hc
      cases hf
      cases h1.int; cases h2.int
      exact zft pins s σ H _ _ v u Q I rx ry ⟨_, _, rfl, rfl, hc, q _ H (.refl H) (.val (.int _))⟩
    · cases hf
  · cases hf
theorem Yn : OpR X (binaryOp .Mod) (yw X.K (ze .mod)) := by
  rintro pins s σ H x y v u Q I rx ry ⟨W, ds, r, wf, hs, hf, q⟩
  obtain ⟨d, e, rfl, h1, h2⟩ := xp hs
  replace hf : XY [d, e] = some r := hf
  unfold XY at hf
  split at hf
  · rename_i a b z; cases z
    split at hf
    · rename_i hc
      cases hf
      cases h1.int; cases h2.int
      exact zfu pins s σ H _ _ v u Q I rx ry ⟨_, _, rfl, rfl, hc, q _ H (.refl H) (.val (.int _))⟩
    · cases hf
  · cases hf
theorem QD : ZN X (unaryOp .USub) (zaH X.K (ze .neg)) := by
  rintro pins s σ H x v Q I rx ⟨W, ds, r, wf, hs, hf, q⟩
  obtain ⟨d, rfl, h1⟩ := Qx hs
  replace hf : Qg [d] = some r := hf
  unfold Qg at hf
  split at hf
  · rename_i a z; cases z; cases hf
    cases h1.int
    exact zfB pins s σ H _ v Q I rx ⟨_, rfl, q _ H (.refl H) (.val (.int _))⟩
  · cases hf
theorem zaO {A : Around} (hu : A.units + 64 < cLine) {d e : D} (h : zD 8 d = true) : A.units + min (zN d).depth (zN e).depth < cLine := by
  have h1 := (wq 8 d h).2
  have h2 : min (zN d).depth (zN e).depth ≤ (zN d).depth := Nat.min_le_left _ _
  omega
theorem wr (hu : X.A.units + 64 < cLine) : OpR X (compareOp .Eq) (yw X.K (ze .eq)) := by
  rintro pins s σ H x y v u Q I rx ry ⟨W, ds, r, wf, hs, hf, q⟩
  obtain ⟨d, e, rfl, h1, h2⟩ := xp hs
  replace hf : ZT [d, e] = some r := hf
  simp only [ZT] at hf
  split at hf
  · rename_i hc
    rw [Bool.and_eq_true] at hc
    cases hf
    obtain ⟨as, ra⟩ := h1.reads I hc.1 rx
    obtain ⟨bs, rb⟩ := h2.reads I hc.2 ry
    refine SeqAt.compareEq_reads ra rb (wq 8 d hc.1).1 (wq 8 e hc.2).1 (zaO hu hc.1) ?_
    rw [Vk]
    exact ⟨.bl _, H, I, rfl, q _ H (.refl H) (.val (.bl _))⟩
  · cases hf
theorem Yo (hu : X.A.units + 64 < cLine) : OpR X (compareOp .NotEq) (yw X.K (ze .ne)) := by
  rintro pins s σ H x y v u Q I rx ry ⟨W, ds, r, wf, hs, hf, q⟩
  obtain ⟨d, e, rfl, h1, h2⟩ := xp hs
  replace hf : ZU [d, e] = some r := hf
  simp only [ZU] at hf
  split at hf
  · rename_i hc
    rw [Bool.and_eq_true] at hc
    cases hf
    obtain ⟨as, ra⟩ := h1.reads I hc.1 rx
    obtain ⟨bs, rb⟩ := h2.reads I hc.2 ry
    refine SeqAt.compareNe_reads ra rb (wq 8 d hc.1).1 (wq 8 e hc.2).1 (zaO hu hc.1) ?_
    rw [Vk]
    exact ⟨.bl _, H, I, rfl, q _ H (.refl H) (.val (.bl _))⟩
  · cases hf
theorem zaP {A : Around} (hu : A.units + 64 < cLine) {d : D} {l : List PyData} (h : zD 8 d = true) : A.units + 1 + min (PyData.depthAll l) (zN d).depth < cLine := by
  have h1 := (wq 8 d h).2
  have h2 : min (PyData.depthAll l) (zN d).depth ≤ (zN d).depth := Nat.min_le_right _ _
  omega
theorem zhB (hu : X.A.units + 64 < cLine) : OpR X (compareOp .NotIn) (yw X.K (ze .nin)) := by
  rintro pins s σ H x y v u Q I rx ry ⟨W, ds, r, wf, hs, hf, q⟩
  obtain ⟨d, e, rfl, h1, h2⟩ := xp hs
  replace hf : jS [d, e] = some r := hf
  unfold jS at hf
  split at hf
  · rename_i x t ks vs z; cases z
    split at hf
    · rename_i hk
      cases hf
      cases t with
      | false =>
        cases d with
        | int i =>
          cases h1.int
          obtain ⟨a, ns, ys, rfl, rfl, hH, hl, _⟩ := h2.dK
          cases ry
          exact JZ (by omega) I (.inl ⟨_, .inl i, hH, rfl, rfl⟩) rx fun s' I' => ⟨.bl _, H, I', rfl, q _ H (.refl H) (.val (by rw [zaM hl]; exact .bl _))⟩
        | _ => simp [yF] at hk
      | true =>
        cases d with
        | tup l =>
          obtain ⟨ms, hms⟩ : ∃ ms, ints? l = some ms := by simp only [yF, Option.isSome_iff_exists] at hk; exact hk
          obtain ⟨b, xs, rfl, hb, rp⟩ := h1.tupH
          obtain ⟨a, ns, ys, rfl, rfl, hH, hl, _⟩ := h2.dT
          cases ry
          have e1 := rp.ofInts hms
          have e2 := Yk hms
          subst e1 e2
          exact JZ (by omega) I (DGet.t (k := ms.map Sum.inl) hH (by rw [hb, QA])) rx fun s' I' => ⟨.bl _, H, I', rfl, q _ H (.refl H) (.val (by rw [zaN hl]; exact .bl _))⟩
        | _ => simp [yF] at hk
    · cases hf
  · rename_i d l z; cases z
    split at hf
    · rename_i hc
      rw [Bool.and_eq_true] at hc
      cases hf
      obtain ⟨as, ra⟩ := h1.reads I hc.1 rx
      obtain ⟨bs, rb⟩ := h2.readsT I hc.2 ry
      simp only [zN] at rb
      refine SeqAt.notIn_tuple_reads rb ra (Yj (wq 8) l hc.2).1 (wq 8 d hc.1).1 (zaP hu hc.1) ?_
      rw [Qz]
      exact ⟨.bl _, H, I, rfl, q _ H (.refl H) (.val (.bl _))⟩
    · cases hf
  · rename_i d l z; cases z
    split at hf
    · rename_i hc
      rw [Bool.and_eq_true] at hc
      cases hf
      obtain ⟨as, ra⟩ := h1.reads I hc.1 rx
      obtain ⟨bs, rb⟩ := h2.readsL I hc.2 ry
      simp only [zN] at rb
      refine SeqAt.notIn_list_reads rb ra (Yj (wq 8) l hc.2).1 (wq 8 d hc.1).1 (zaP hu hc.1) ?_
      rw [Qz]
      exact ⟨.bl _, H, I, rfl, q _ H (.refl H) (.val (.bl _))⟩
    · cases hf
  · cases hf
theorem QE : ∀ x y : List Int, LW.lexLt x y = HT.lexLt x y
  | [], [] => rfl
  | [], _ :: _ => rfl
  | _ :: _, [] => rfl
  | a :: x, b :: y => by rw [HT.lexLt_cons, LW.lexLt, QE x y]
theorem Yp (hu : X.A.units + 64 < cLine) : OpR X (compareOp .Lt) (yw X.K (ze .lt)) := by
  rintro pins s σ H x y v u Q I rx ry ⟨W, ds, r, wf, hs, hf, q⟩
  obtain ⟨d, e, rfl, h1, h2⟩ := xp hs
  replace hf : ZV [d, e] = some r := hf
  unfold ZV at hf
  split at hf
  · rename_i a b z; cases z; cases hf
    cases h1.int; cases h2.int
    exact zfC pins s σ H _ _ v u Q I rx ry ⟨_, _, rfl, rfl, q _ H (.refl H) (.val (.bl _))⟩
  · rename_i a b z; cases z
    simp only [jo1] at hf
    obtain ⟨ns, e1, ms, e2, hf⟩ := hf
    cases hf
    obtain ⟨p, xs, rfl, hp, rp⟩ := h1.tup
    obtain ⟨p2, xs2, rfl, hp2, rp2⟩ := h2.tup
    rw [rp.ofInts e1] at hp
    rw [rp2.ofInts e2] at hp2
    refine zf6 (by omega) pins s σ H _ _ v u Q I rx ry ⟨_, _, ns, ms, rfl, rfl, hp, hp2, ?_⟩
    rw [← QE]
    exact q _ H (.refl H) (.val (.bl _))
  · cases hf
theorem Vm : OpR X (compareOp .LtE) (yw X.K (ze .le)) := by
  rintro pins s σ H x y v u Q I rx ry ⟨W, ds, r, wf, hs, hf, q⟩
  obtain ⟨d, e, rfl, h1, h2⟩ := xp hs
  replace hf : XZ [d, e] = some r := hf
  unfold XZ at hf
  split at hf
  · rename_i a b z; cases z; cases hf
    cases h1.int; cases h2.int
    exact zfD pins s σ H _ _ v u Q I rx ry ⟨_, _, rfl, rfl, q _ H (.refl H) (.val (.bl _))⟩
  · cases hf
theorem zhC (hu : X.A.units < cLine) {pins : List (Addr × Obj)} {s : Shared} {σ : St} {H : Hp} {a b : Addr} {ns ms : List Int} {Q : VK} (I : Inv X pins σ H s) (ha : SqT X.K H a (ns.map V.int)) (hb : SqT X.K H b (ms.map V.int)) (q : Q (.bl (HT.lexLt ms ns)) H) :
    wpAny (model X.prog X.w) X.A (compareOp .Gt (.ref a) (.ref b)) (EP X pins σ Q) X.xe s := by
  obtain ⟨its, r1, p1, _⟩ := I.tuple ha
  obtain ⟨its2, r2, p2, _⟩ := I.tuple hb
  have i1 : IntsAre its.toArray.toList ns := vM r1
  have i2 : IntsAre its2.toArray.toList ms := vM r2
  exact HT.gt_tupInts p1 p2 i1 i2 hu ⟨.bl (HT.lexLt ms ns), H, I, rfl, q⟩
theorem QF (hu : X.A.units + 64 < cLine) : OpR X (compareOp .Gt) (yw X.K (ze .gt)) := by
  rintro pins s σ H x y v u Q I rx ry ⟨W, ds, r, wf, hs, hf, q⟩
  obtain ⟨d, e, rfl, h1, h2⟩ := xp hs
  replace hf : Va [d, e] = some r := hf
  unfold Va at hf
  split at hf
  · rename_i a b z; cases z; cases hf
    cases h1.int; cases h2.int
    exact zfE pins s σ H _ _ v u Q I rx ry ⟨_, _, rfl, rfl, q _ H (.refl H) (.val (.bl _))⟩
  · rename_i a b z; cases z
    simp only [jo1] at hf
    obtain ⟨ns, e1, ms, e2, hf⟩ := hf
    cases hf
    obtain ⟨p, xs, rfl, hp, rp⟩ := h1.tup
    obtain ⟨p2, xs2, rfl, hp2, rp2⟩ := h2.tup
    rw [rp.ofInts e1] at hp
    rw [rp2.ofInts e2] at hp2
    cases rx
    cases ry
    refine zhC (by omega) I hp hp2 ?_
    rw [← QE]
    exact q _ H (.refl H) (.val (.bl _))
  · cases hf
theorem zaQ {K : PySem.W.Frag} {W : Addr → Prop} {H : Hp} {ds : List D} {xs : List V} {i : Int} {d : D} (r : Reps K W H ds xs) (h : LW.atI ds i = some d) : ∃ x, L2.atI xs i = some x ∧ Rep K W H d x := by
  unfold LW.atI at h
  unfold L2.atI
  rw [jo1] at h
  obtain ⟨j, h1, h2⟩ := h
  obtain ⟨x, e, q⟩ := r.get h2
  refine ⟨x, ?_, q⟩
  rw [← r.length]
  rw [jo1]
  exact ⟨j, h1, e⟩
theorem zaR {value slice : Expr} {pins : List (Addr × Obj)} {s : Shared} {σ : St} {H : Hp} {a : Addr} {y v : V} {u : Value} {Q : VK} (hu : X.A.units + 64 < cLine) (I : Inv X pins σ H s) (g : DGet H a y (some v)) (ry : RelV y u) (q : Q v H)
    (hs : subscripted slice false (.ref a) u = operate [.ref a, u] (getItem (.ref a) u)) : wpAny (model X.prog X.w) X.A (subscriptTail value slice (.ref a) u) (EP X pins σ Q) X.xe s := by
  have hT := zaj I g
  unfold subscriptTail
  refine wpAny_bind ?_
  rw [getitemInPython_of_ne hT.not_modules]
  refine wpAny_bind (wpAny_specialOf hT PySem.F.slot_dict_getitem.lookup ?_)
  have fin : wpAny (model X.prog X.w) X.A (subscripted slice false (.ref a) u) (fun r s₃ => wpAny (model X.prog X.w) X.A (letTemporaryGo value (.ref a) r >>= fun _ => pure r) (EP X pins σ Q) X.xe s₃) X.xe s := by
    rw [hs]
    refine wpAny_operating (wpAny_mono (zag (Q := EP X pins σ Q) (by omega) I g ry fun w' s' I' rv => ⟨v, H, I', rv, q⟩) (fun r s₃ h₃ => wpAny_bind (wpAny_letTemporaryGo (wpAny_pure h₃))) fun _ _ x => x)
  first
    | exact wpAny_pure (wpAny_bind fin)
    | exact wpAny_bind (wpAny_pure (wpAny_bind fin))
    | exact wpAny_pure (wpAny_bind (wpAny_pure (wpAny_bind fin)))
    | exact wpAny_bind (wpAny_bind (wpAny_pure fin))
theorem zhD (hu : X.A.units + 64 < cLine) : IxR X (yw X.K (ze .idx)) := by
  rintro value slice pins s σ H x y v u Q I rx ry ⟨W, ds, r, wf, hs, hf, q⟩ hsub
  obtain ⟨d, e, rfl, h1, h2⟩ := xp hs
  replace hf : ji [d, e] = some r := hf
  unfold ji at hf
  split at hf
  · rename_i t ks vs k z; cases z
    split at hf
    · rename_i hk
      rw [jo2] at hf
      obtain ⟨d', e1, rfl⟩ := hf
      cases t with
      | false =>
        cases e with
        | int i =>
          cases h2.int
          obtain ⟨a, ns, ys, rfl, rfl, hH, hl, rp⟩ := h1.dK
          cases rx
          obtain ⟨y, e2, ry'⟩ := QC hl rp e1
          exact zaR hu I (by rw [← e2]; exact .inl ⟨_, .inl i, hH, rfl, rfl⟩) ry (q _ H (.refl H) (.val ry')) hsub
        | _ => simp [yF] at hk
      | true =>
        cases e with
        | tup l =>
          obtain ⟨ms, hms⟩ : ∃ ms, ints? l = some ms := by simp only [yF, Option.isSome_iff_exists] at hk; exact hk
          obtain ⟨b, xs, rfl, hb, rpb⟩ := h2.tupH
          obtain ⟨a, ns, ys, rfl, rfl, hH, hl, rp⟩ := h1.dT
          cases rx
          have z1 := rpb.ofInts hms
          have z2 := Yk hms
          subst z1 z2
          obtain ⟨y, e2, ry'⟩ := zhA hl rp e1
          exact zaR hu I (by rw [← e2]; exact DGet.t (k := ms.map Sum.inl) hH (by rw [hb, QA])) ry (q _ H (.refl H) (.val ry')) hsub
        | _ => simp [yF] at hk
    · cases hf
  · rename_i l i z; cases z
    rw [jo2] at hf
    obtain ⟨d, e1, rfl⟩ := hf
    obtain ⟨p, xs, rfl, hp, rp⟩ := h1.tup
    cases h2.int
    obtain ⟨z, e2, rz⟩ := zaQ rp e1
    exact zf9 value slice pins s σ H _ _ v u Q I rx ry ⟨p, xs, i, z, rfl, rfl, hp, e2, q _ H (.refl H) (.val rz)⟩ hsub
  · rename_i l i z; cases z
    rw [jo2] at hf
    obtain ⟨d, e1, rfl⟩ := hf
    obtain ⟨p, xs, rfl, hp, rp⟩ := h1.lst
    cases h2.int
    obtain ⟨z, e2, rz⟩ := zaQ rp e1
    exact gS value slice pins s σ H _ _ v u Q I rx ry ⟨p, xs, i, z, rfl, rfl, hp, e2, q _ H (.refl H) (.val rz)⟩ hsub
  · cases hf
theorem xj : CallR X (.builtin "len") (VR X.K (ze .len)) := by
  rintro pins s σ H xs us Q I rv ⟨W, ds, r, wf, hs, hf, q⟩
  replace hf : Qi ds = some r := hf
  unfold Qi at hf
  split at hf
  · cases hf
    cases hs with
    | cons h1 t =>
      cases t
      obtain ⟨p, ys, rfl, hp, rp⟩ := h1.tup
      refine gT pins s σ H _ us Q I rv ⟨p, ys, rfl, .inr hp, ?_⟩
      rw [← rp.length]
      exact q _ H (.refl H) (.val (.int _))
  · cases hf
    cases hs with
    | cons h1 t =>
      cases t
      obtain ⟨p, ys, rfl, hp, rp⟩ := h1.lst
      refine gT pins s σ H _ us Q I rv ⟨p, ys, rfl, .inl hp, ?_⟩
      rw [← rp.length]
      exact q _ H (.refl H) (.val (.int _))
  · cases hf
theorem Za : CallR X (.builtin "abs") (VR X.K (ze .abs)) := by
  rintro pins s σ H xs us Q I rv ⟨W, ds, r, wf, hs, hf, q⟩
  replace hf : Qj ds = some r := hf
  unfold Qj at hf
  split at hf
  · cases hf
    cases hs with
    | cons h1 t =>
      cases t
      cases h1.int
      exact zfL pins s σ H _ us Q I rv ⟨_, rfl, q _ H (.refl H) (.val (.int _))⟩
  · cases hf
theorem zhE (hc : X.calm = true) : CallR X (.builtin "min") (VR X.K (ze .min2)) := by
  rintro pins s σ H xs us Q I rv ⟨W, ds, r, wf, hs, hf, q⟩
  replace hf : Qk ds = some r := hf
  unfold Qk at hf
  split at hf
  · cases hf
    cases hs with
    | cons h1 t =>
      cases t with
      | cons h2 t =>
        cases t
        cases h1.int; cases h2.int
        exact zfN hc pins s σ H _ us Q I rv ⟨_, _, rfl, q _ H (.refl H) (.val (.int _))⟩
  · cases hf
theorem zhF (hc : X.calm = true) : CallR X (.builtin "max") (VR X.K (ze .max2)) := by
  rintro pins s σ H xs us Q I rv ⟨W, ds, r, wf, hs, hf, q⟩
  replace hf : Ql ds = some r := hf
  unfold Ql at hf
  split at hf
  · cases hf
    cases hs with
    | cons h1 t =>
      cases t with
      | cons h2 t =>
        cases t
        cases h1.int; cases h2.int
        exact zfM hc pins s σ H _ us Q I rv ⟨_, _, rfl, q _ H (.refl H) (.val (.int _))⟩
  · cases hf
theorem zaS : CallR X (.type "list") (VR X.K (ze .toList)) := by
  rintro pins s σ H xs us Q I rv ⟨W, ds, r, wf, hs, hf, q⟩
  replace hf : Qo ds = some r := hf
  unfold Qo at hf
  split at hf
  · cases hf
    cases hs with
    | cons h1 t =>
      cases t
      obtain ⟨p, ys, rfl, hp, rp⟩ := h1.tup
      exact gU pins s σ H _ us Q I rv ⟨p, ys, rfl, .inr hp, fun l hl => q _ _ (yx hl _) (jm hl rp)⟩
  · cases hf
    cases hs with
    | cons h1 t =>
      cases t
      obtain ⟨p, ys, rfl, hp, rp⟩ := h1.lst
      exact gU pins s σ H _ us Q I rv ⟨p, ys, rfl, .inl hp, fun l hl => q _ _ (yx hl _) (jm hl rp)⟩
  · cases hf
theorem zhG : CallR X (.type "tuple") (VR X.K (ze .toTup)) := by
  rintro pins s σ H xs us Q I rv ⟨W, ds, r, wf, hs, hf, q⟩
  replace hf : Qp ds = some r := hf
  unfold Qp at hf
  split at hf
  · cases hf
    cases hs with
    | cons h1 t =>
      cases t
      obtain ⟨p, ys, rfl, hp, rp⟩ := h1.tupH
      exact gW pins s σ H _ us Q I rv ⟨p, ys, rfl, .inr ⟨.of hp, q _ H (.refl H) (.val (.tup hp rp))⟩⟩
  · cases hf
    cases hs with
    | cons h1 t =>
      cases t
      obtain ⟨p, ys, rfl, hp, rp⟩ := h1.lst
      exact gW pins s σ H _ us Q I rv ⟨p, ys, rfl, .inl ⟨hp, fun l hl => q _ _ (yx hl _) (zaI hl rp)⟩⟩
  · cases hf
end
end L2.LW
set_option maxHeartbeats 4000000
namespace L2.LW
open PySem PySem.Spec PyProof.Rows
structure IE (X : Cx) (fn : Nat → List D → Option SV) (e : Expr) (c : E) : Prop where
  h : PE X e (tE X.K fn c)
structure IA (X : Cx) (fn : Nat → List D → Option SV) (es : List Expr) (cs : Es) : Prop where
  h : PA X es (Qw X.K fn cs)
structure IT (X : Cx) (fn : Nat → List D → Option SV) (e : Expr) (c : E) : Prop where
  h : PT X e (tT X.K fn c)
structure IW (X : Cx) (fn : Nat → List D → Option SV) (e : Expr) (c : E) : Prop where
  h : PW X e (tT X.K fn c)
theorem Res.back {K : PySem.W.Frag} {W : Addr → Prop} {H H1 H2 : Hp} {r : SV} {v : V} (h : Res K W H1 H2 r v) (s : Same H H1) : Res K W H H2 r v := by
  cases h with
  | val h => exact .val h
  | new h e r => exact .new (s.free h) e r
  | see h e r => exact .see h e r
theorem R.wf' {K : PySem.W.Frag} {W : Addr → Prop} {ρ : LW.Env} {σ : St} {H H' : Hp} (r : R K W ρ σ H) (s : Same H H') : Wf W H' := (r.same s).wf
theorem zaT {K : PySem.W.Frag} {W : Addr → Prop} {H : Hp} : ∀ {rs : List SV} {vs : List V}, Paired (Frz K W H) rs vs → Paired (Sees K W H) (rs.map zq) vs
  | _, _, .nil => .nil
  | _, _, .cons h t => .cons h.sees (zaT t)
theorem QG {K : PySem.W.Frag} {W : Addr → Prop} {H : Hp} : ∀ {rs : List SV} {vs : List V} {ds : List D}, Paired (Frz K W H) rs vs → xc rs = some ds → Reps K W H ds vs
  | _, _, _, .nil, e => by simp [xc] at e; subst e; exact .nil
  | _, _, _, .cons h t, e => by
    simp only [xc, jo1, jo2] at e
    obtain ⟨d, e1, ds, e2, rfl⟩ := e
    exact .cons (h.toD e1) (QG t e2)
section
variable {es : List Expr} {env : PySem.Env}
theorem zc {a b} : starEach (.Name a b :: es) env = (false, eval (.Name a b) env) :: starEach es env := rfl
theorem zo {a b c} : starEach (.Constant a b c :: es) env = (false, eval (.Constant a b c) env) :: starEach es env := rfl
theorem yy {a b c d} : starEach (.BinOp a b c d :: es) env = (false, eval (.BinOp a b c d) env) :: starEach es env := rfl
theorem yd {a b c d} : starEach (.Call a b c d :: es) env = (false, eval (.Call a b c d) env) :: starEach es env := rfl
theorem yc {a b c} : starEach (.Subscript a b c :: es) env = (false, eval (.Subscript a b c) env) :: starEach es env := rfl
theorem yN {a b c} : starEach (.Tuple a b c :: es) env = (false, eval (.Tuple a b c) env) :: starEach es env := rfl
theorem Zb {a b} : starEach (.List a b :: es) env = (false, eval (.List a b) env) :: starEach es env := rfl
theorem Zc {a b c d} : starEach (.ListComp a b c d :: es) env = (false, eval (.ListComp a b c d) env) :: starEach es env := rfl
theorem zm {pos : Pos} : (backTo pos (starEach [] env)).any (·.1) = false := rfl
theorem zt {pos : Pos} {e : Expr} (h : starEach (e :: es) env = (false, eval e env) :: starEach es env) (t : (backTo pos (starEach es env)).any (·.1) = false) : (backTo pos (starEach (e :: es) env)).any (·.1) = false := by
  rw [h]; simpa [backTo] using t
theorem zhH {a b} : ∀ whole, isTrue (.Name a b) env whole = (do let v ← whole; standAt (Expr.Name a b).pos; holding [v] (truthy v)) := fun _ => rfl
theorem xX {a b c d} : ∀ whole, isTrue (.Call a b c d) env whole = (do let v ← whole; standAt (Expr.Call a b c d).pos; holding [v] (truthy v)) := fun _ => rfl
end
section
variable {X : Cx} {fn : Nat → List D → Option SV} {a b c e : Expr} {ca cb cc ce : E} {es : List Expr} {cs : Es} {pos p : Pos} {x : Str}
theorem IE.v (h : IE X fn e ce) : PE X e (tV X.K fn ce) := h.h.imp fun σ H Q ⟨W, ρ, r, hR, he, q⟩ => ⟨W, ρ, r, hR, he, fun v H' s x => q v H' s (x.frz hR.wf)⟩
theorem zh {i : Int} {j : Nat} : IE X fn (.Constant (.int i) j pos) (.int i) := .mk <| zeN.imp fun σ H Q zz3 => by
  obtain ⟨W, ρ, r, hR, he, q⟩ := zz3
  simp only [jY] at he; cases he; exact q _ H (.refl H) (.val (.int i))
theorem jn {i : Bool} {j : Nat} : IE X fn (.Constant (.bool i) j pos) (.bl i) := .mk <| zeO.imp fun σ H Q zz3 => by
  obtain ⟨W, ρ, r, hR, he, q⟩ := zz3
  simp only [zg2] at he; cases he; exact q _ H (.refl H) (.val (.bl i))
theorem zaU {j : Nat} : IE X fn (.Constant .none j pos) .non := .mk <| zeP.imp fun σ H Q zz3 => by
  obtain ⟨W, ρ, r, hR, he, q⟩ := zz3
  simp only [zg3] at he; cases he; exact q _ H (.refl H) (.val .non)
theorem zb (i : Nat) (hN : X.N[i]? = some x) (hv : wz X.env.scope x) (hd : (x == ("__debug__" : Str)) = false := by decide) (hcd : (x == ("__classdict__" : Str)) = false := by decide) : IE X fn (.Name x pos) (.var i) :=
  .mk <| (yC hN hv hd hcd).imp fun σ H Q zz3 => by
    obtain ⟨W, ρ, r, hR, he, q⟩ := zz3
    simp only [zg4] at he
    obtain ⟨v, h1, _, h3⟩ := hR.look he
    exact ⟨v, h1, q v H (.refl H) h3⟩
theorem Zd {i : Int} {t : Tok} (hg : Gl X x) (hm : X.mg x = some (.int i t)) (hd : (x == ("__debug__" : Str)) = false := by decide) : IE X fn (.Name x pos) (.int i) :=
  .mk <| (zeQ hg hm (v := .int i) ⟨t, rfl⟩ hd).imp fun σ H Q zz3 => by
    obtain ⟨W, ρ, r, hR, he, q⟩ := zz3
    simp only [jY] at he; cases he; exact q _ H (.refl H) (.val (.int i))
theorem zi : IA X fn [] .nil := .mk <| wR.imp fun σ H Q zz3 => by
  obtain ⟨W, ρ, rs, hR, he, q⟩ := zz3
  simp only [yI] at he; cases he; exact q _ H (.refl H) .nil
theorem za (ha : IE X fn e ce) (hr : IA X fn es cs) (hs : starEach (e :: es) X.env = (false, eval e X.env) :: starEach es X.env := by rfl) : IA X fn (e :: es) (.cons ce cs) :=
  .mk <| (vp ha.v hr.h hs).imp fun σ H Q zz3 => by
    obtain ⟨W, ρ, rs, hR, he, q⟩ := zz3
    simp only [yJ, jo1, jo2] at he
    obtain ⟨r, e1, rs', e2, rfl⟩ := he
    exact ⟨W, ρ, r, hR, e1, fun v H1 s1 f1 => ⟨W, ρ, rs', hR.same s1, e2, fun vs H2 s2 f2 => q _ H2 (s1.trans s2) (.cons (f1.same s2) f2)⟩⟩
theorem Vn {K : PySem.W.Frag} {p : Prim} {W : Addr → Prop} {ρ : LW.Env} {σ : St} {H H1 : Hp} {Q : VK} {rs : List SV} {vs : List V} {r : SV} (hR : R K W ρ σ H) (s1 : Same H H1) (f : Paired (Frz K W H1) rs vs)
    (e : ze p (rs.map zq) = some r) (q : ∀ v H', Same H H' → Res K W H H' r v → Q v H') : VR K (ze p) vs H1 Q :=
  ⟨W, rs.map zq, r, hR.wf' s1, zaT f, e, fun v H' s2 h => q v H' (s1.trans s2) (h.back s1)⟩
theorem Vo {K : PySem.W.Frag} {p : Prim} {ρ : LW.Env} {σ : St} {H : Hp} {Q : VK} {W : Addr → Prop} {r : SV} (hR : R K W ρ σ H) (he : zg fn (.prim p (.cons ca (.cons cb .nil))) ρ = some r) (q : ∀ v H', Same H H' → Res K W H H' r v → Q v H') :
    jd (yw K (ze p)) (tV K fn ca) (tV K fn cb) σ H Q := by
  simp only [xg, yI, yJ, jo1, jo2] at he
  obtain ⟨rs, ⟨r1, e1, rs', ⟨r2, e2, rs'', e3, rfl⟩, rfl⟩, e4⟩ := he
  cases e3
  exact ⟨W, ρ, r1, hR, e1, fun v1 H1 s1 f1 => ⟨W, ρ, r2, hR.same s1, e2, fun v2 H2 s2 f2 => Vn hR (s1.trans s2) (.cons (f1.same s2) (.cons f2 .nil)) e4 q⟩⟩
theorem zC {op : Operator} {pr : Prim} (ho : OpR X (binaryOp op) (yw X.K (ze pr))) (ha : IE X fn a ca) (hb : IE X fn b cb) : IE X fn (.BinOp a op b pos) (.prim pr (.cons ca (.cons cb .nil))) :=
  .mk <| (zfn ho ha.v hb.v).imp fun σ H Q ⟨W, ρ, r, hR, he, q⟩ => Vo hR he q
theorem QH {op : UnaryOp} {pr : Prim} (ho : ZN X (unaryOp op) (zaH X.K (ze pr))) (ha : IE X fn a ca) : IE X fn (.UnaryOp op a pos) (.prim pr (.cons ca .nil)) :=
  .mk <| (zfo ho ha.v).imp fun σ H Q zz3 => by
    obtain ⟨W, ρ, r, hR, he, q⟩ := zz3
    simp only [xg, yI, yJ, jo1, jo2] at he
    obtain ⟨rs, ⟨r1, e1, rs', e3, rfl⟩, e4⟩ := he
    cases e3
    exact ⟨W, ρ, r1, hR, e1, fun v1 H1 s1 f1 => Vn hR s1 (.cons f1 .nil) e4 q⟩
theorem wZ {op : CmpOp} {pr : Prim} (ho : OpR X (compareOp op) (yw X.K (ze pr))) (ha : IE X fn a ca) (hb : IE X fn b cb) (hm : behindInMarks op b = false) : IE X fn (.Compare a [op] [b] pos) (.prim pr (.cons ca (.cons cb .nil))) :=
  .mk <| (zfF ho ha.v hb.v hm).imp fun σ H Q ⟨W, ρ, r, hR, he, q⟩ => Vo hR he q
theorem zV (hu : X.A.units + 64 < cLine) (ha : IE X fn a ca) (hb : IE X fn b cb) (hs : gP b) : IE X fn (.Subscript a b pos) (.prim .idx (.cons ca (.cons cb .nil))) :=
  .mk <| (gQ (zhD hu) ha.v hb.v hs).imp fun σ H Q ⟨W, ρ, r, hR, he, q⟩ => Vo hR he q
theorem zaV {K : PySem.W.Frag} {pr : Prim} {ρ : LW.Env} {σ : St} {H : Hp} {Q : VK} {W : Addr → Prop} {r : SV} (hR : R K W ρ σ H) (he : zg fn (.prim pr cs) ρ = some r) (q : ∀ v H', Same H H' → Res K W H H' r v → Q v H') :
    JW (VR K (ze pr)) (Qw K fn cs) σ H Q := by
  simp only [xg, jo1] at he
  obtain ⟨rs, e1, e2⟩ := he
  exact ⟨W, ρ, rs, hR, e1, fun vs H1 s1 f => Vn hR s1 f e2 q⟩
theorem yg {id : String} {pr : Prim} (hc : CallR X (.builtin id) (VR X.K (ze pr))) (hg : Gl X x) (hm : X.mg x = none) (hv : bootBuiltins x = some (.builtin id)) (ha : IA X fn (e :: es) cs) (hn : x ≠ "__name__" := by decide) (hdb : (x == ("__debug__" : Str)) = false := by decide)
    (he : starEach (e :: es) X.env = (false, eval e X.env) :: starEach es X.env := by rfl) (hpl : (backTo pos (starEach es X.env)).any (·.1) = false := by rfl) : IE X fn (.Call (.Name x p) (e :: es) [] pos) (.prim pr cs) :=
  .mk <| (gJ hc hg hm hv ha.h hn hdb he hpl).imp fun σ H Q ⟨W, ρ, r, hR, h, q⟩ => zaV hR h q
theorem QI {T : String} {pr : Prim} (hc : CallR X (.type T) (VR X.K (ze pr))) (hg : Gl X x) (hm : X.mg x = none) (hv : bootBuiltins x = some (.type T)) (ha : IA X fn (e :: es) cs) (hn : x ≠ "__name__" := by decide) (hdb : (x == ("__debug__" : Str)) = false := by decide)
    (he : starEach (e :: es) X.env = (false, eval e X.env) :: starEach es X.env := by rfl) (hpl : (backTo pos (starEach es X.env)).any (·.1) = false := by rfl) : IE X fn (.Call (.Name x p) (e :: es) [] pos) (.prim pr cs) :=
  .mk <| (JX hc hg hm hv ha.h hn hdb he hpl).imp fun σ H Q ⟨W, ρ, r, hR, h, q⟩ => zaV hR h q
theorem QJ {K : PySem.W.Frag} {W : Addr → Prop} {H : Hp} : ∀ {rs : List SV} {ds : List D}, xc rs = some ds → ds.length = rs.length
  | [], _, e => by simp [xc] at e; subst e; rfl
  | r :: rs, _, e => by
    simp only [xc, jo1, jo2] at e
    obtain ⟨d, e1, ds, e2, rfl⟩ := e
    simp [QJ (K := K) (W := W) (H := H) e2]
noncomputable def Yq : Es → Nat
  | .nil => 0
  | .cons _ r => Yq r + 1
theorem QK : ∀ {cs : Es} {ρ : LW.Env} {rs : List SV}, zM fn cs ρ = some rs → rs.length = Yq cs
  | .nil, _, _, e => by simp only [yI] at e; cases e; rfl
  | .cons c cs, _, _, e => by
    simp only [yJ, jo1, jo2] at e
    obtain ⟨r, e1, rs', e2, rfl⟩ := e
    simp [Yq, QK e2]
theorem yK {k : Nat} (h : IA X fn es cs) (hl : Yq cs ≤ 1000 := by decide) : IE X fn (.Tuple es k pos) (.tup cs) :=
  .mk <| (zfQ h.h).imp fun σ H Q zz3 => by
    obtain ⟨W, ρ, r, hR, he, q⟩ := zz3
    simp only [zg5, jo1, jo2] at he
    obtain ⟨rs, e1, ds, e2, rfl⟩ := he
    refine ⟨W, ρ, rs, hR, e1, fun vs H1 s1 f => ?_⟩
    have r1 := QG f e2
    have l1 := r1.length
    have l2 := QJ (K := X.K) (W := W) (H := H) e2
    have l3 := QK e1
    exact ⟨Nat.le_of_lt (XT (by omega)), fun p hp => q _ _ (s1.trans (yx hp _)) ((zaI hp r1).back s1)⟩
theorem xY (h : IA X fn es cs) (hl : Yq cs ≤ 1000 := by decide) : IE X fn (.List es pos) (.lst cs) :=
  .mk <| (XO h.h).imp fun σ H Q zz3 => by
    obtain ⟨W, ρ, r, hR, he, q⟩ := zz3
    simp only [zg6, jo1, jo2] at he
    obtain ⟨rs, e1, ds, e2, rfl⟩ := he
    refine ⟨W, ρ, rs, hR, e1, fun vs H1 s1 f => ?_⟩
    have r1 := QG f e2
    have l1 := r1.length
    have l2 := QJ (K := X.K) (W := W) (H := H) e2
    have l3 := QK e1
    exact ⟨Nat.le_of_lt (XT (by omega)), fun p hp => q _ _ (s1.trans (yx hp _)) ((jm hp r1).back s1)⟩
theorem Ze {op : BoolOp} (h : IE X fn a ca) : IE X fn (.BoolOp op [a] pos) ca := .mk (ze5 h.h)
theorem vQ {zL : List Expr} (ha : IE X fn a ca) (hb : IE X fn (.BoolOp .And (b :: zL) pos) cb) : IE X fn (.BoolOp .And (a :: b :: zL) pos) (.and ca cb) :=
  .mk <| (ze6 ha.h hb.h).imp fun σ H Q zz3 => by
    obtain ⟨W, ρ, r, hR, he, q⟩ := zz3
    simp only [zg7, jo1] at he
    obtain ⟨r1, e1, e2⟩ := he
    refine ⟨W, ρ, r1, hR, e1, fun v H1 s1 f => ?_⟩
    split at e2
    · cases f with
      | val h =>
        cases h
        exact ⟨true, rfl, by rw [if_pos rfl]; exact ⟨W, ρ, r, hR.same s1, e2, fun v H2 s2 h => q v H2 (s1.trans s2) (h.back s1)⟩⟩
    · cases f with
      | val h =>
        cases h; cases e2
        exact ⟨false, rfl, by rw [if_neg Bool.false_ne_true]; exact q _ H1 s1 (.val (.bl false))⟩
    · cases e2
theorem zhI {op op' : CmpOp} {p q : Prim} (ho : OpR X (compareOp op) (yw X.K (ze p))) (ho' : OpR X (compareOp op') (yw X.K (ze q))) (ha : IE X fn a ca) (hb : IE X fn b cb) (hc : IE X fn c cc)
    (hm : lastMarks [op, op'] [b, c] = false := by with_unfolding_all rfl) : IE X fn (.Compare a [op, op'] [b, c] pos) (.chain p q ca cb cc) :=
  .mk <| (zfG ho ho' ha.v hb.v hc.v hm).imp fun σ H Q zz3 => by
    obtain ⟨W, ρ, r, hR, he, hq⟩ := zz3
    simp only [zg8, jo1] at he
    obtain ⟨r1, e1, r2, e2, z, e3, e4⟩ := he
    refine ⟨W, ρ, r1, hR, e1, fun v1 H1 s1 f1 => ⟨W, ρ, r2, hR.same s1, e2, fun v2 H2 s2 f2 => ?_⟩⟩
    refine ⟨W, _, z, hR.wf' (s1.trans s2), .cons (f1.same s2).sees (.cons f2.sees .nil), e3, fun v H3 s3 h3 => ?_⟩
    split at e4
    · cases h3 with
      | val h3 =>
        cases h3
        simp only [jo1] at e4
        obtain ⟨r3, e5, e6⟩ := e4
        refine ⟨true, rfl, ?_⟩
        rw [if_pos rfl]
        have s13 := (s1.trans s2).trans s3
        refine ⟨W, ρ, r3, hR.same s13, e5, fun v4 H4 s4 f4 => ?_⟩
        exact ⟨W, _, r, hR.wf' (s13.trans s4), .cons ((f2.same s3).same s4).sees (.cons f4.sees .nil), e6, fun v5 H5 s5 h5 => hq v5 H5 (s13.trans (s4.trans s5)) (h5.back (s13.trans s4))⟩
    · cases h3 with
      | val h3 =>
        cases h3; cases e4
        exact ⟨false, rfl, by rw [if_neg Bool.false_ne_true]; exact hq _ H3 ((s1.trans s2).trans s3) (.val (.bl false))⟩
    · cases e4
theorem IW.t (h : IW X fn e ce) : IT X fn e ce := .mk (PW.pt h.h)
theorem zaW (h : IT X fn a ca) : IW X fn (.BoolOp .And [a] pos) ca := .mk (zeZ h.h)
theorem Yr (h : IT X fn a ca) : IW X fn (.BoolOp .Or [a] pos) ca := .mk (ze0 h.h)
theorem zaX {zL : List Expr} (ha : IT X fn a ca) (hb : IW X fn (.BoolOp .And (b :: zL) pos) cb) : IW X fn (.BoolOp .And (a :: b :: zL) pos) (.and ca cb) :=
  .mk <| (ze1 ha.h hb.h).imp fun σ H Q zz3 => by
    obtain ⟨W, ρ, k, hR, he, q⟩ := zz3
    simp only [zha, jo1] at he
    obtain ⟨k1, e1, e2⟩ := he
    refine ⟨W, ρ, k1, hR, e1, fun H1 s1 => ?_⟩
    cases k1 with
    | true => rw [if_pos rfl] at e2 ⊢; exact ⟨W, ρ, k, hR.same s1, e2, fun H2 s2 => q H2 (s1.trans s2)⟩
    | false => rw [if_neg Bool.false_ne_true] at e2 ⊢; cases e2; exact q H1 s1
theorem Zf {zL : List Expr} (ha : IT X fn a ca) (hb : IW X fn (.BoolOp .Or (b :: zL) pos) cb) : IW X fn (.BoolOp .Or (a :: b :: zL) pos) (.or ca cb) :=
  .mk <| (ze2 ha.h hb.h).imp fun σ H Q zz3 => by
    obtain ⟨W, ρ, k, hR, he, q⟩ := zz3
    simp only [zhb, jo1] at he
    obtain ⟨k1, e1, e2⟩ := he
    refine ⟨W, ρ, k1, hR, e1, fun H1 s1 => ?_⟩
    cases k1 with
    | true => rw [if_pos rfl] at e2 ⊢; cases e2; exact q H1 s1
    | false => rw [if_neg Bool.false_ne_true] at e2 ⊢; exact ⟨W, ρ, k, hR.same s1, e2, fun H2 s2 => q H2 (s1.trans s2)⟩
theorem wG (ha : IT X fn a ca) : IT X fn (.UnaryOp .Not a pos) (.not ca) :=
  .mk <| (ze3 ha.h).imp fun σ H Q zz3 => by
    obtain ⟨W, ρ, k, hR, he, q⟩ := zz3
    simp only [zhc, jo2] at he
    obtain ⟨k1, e1, rfl⟩ := he
    exact ⟨W, ρ, k1, hR, e1, fun H1 s1 => q H1 s1⟩
noncomputable def Vp : Prim → Bool
  | .eq => true | .ne => true | .lt => true | .le => true | .gt => true | .ge => true | .inn => true | .nin => true | .isN => true | .notN => true | .eqS => true | .neS => true
  | _ => false
theorem QL {b : Bool} {r : SV} (h : ym b = some r) : r = .val (.bl b) := by cases h; rfl
theorem zaY {p : Prim} (hp : Vp p = true) {ds : List D} {r : SV} (h : ze p ds = some r) : ∃ b, r = .val (.bl b) := by
  cases p <;> first | cases hp | skip
  all_goals
    simp only [ze] at h
    first | unfold zat at h | unfold zau at h | unfold ZT at h | unfold ZU at h | unfold ZV at h | unfold XZ at h | unfold Va at h | unfold zaq at h | unfold Qh at h | unfold jS at h | unfold zar at h | unfold zas at h
    split at h
    all_goals first
      | exact ⟨_, QL h⟩
      | cases h
      | (split at h <;> first | exact ⟨_, QL h⟩ | cases h)
      | (simp only [jo1] at h; obtain ⟨_, _, _, _, h⟩ := h; exact ⟨_, QL h⟩)
theorem xy {op : CmpOp} {pr : Prim} (hp : Vp pr = true) (ho : OpR X (compareOp op) (yw X.K (ze pr))) (ha : IE X fn a ca) (hb : IE X fn b cb) (hm : behindInMarks op b = false) : IT X fn (.Compare a [op] [b] pos) (.prim pr (.cons ca (.cons cb .nil))) :=
  .mk <| (gB ho ha.v hb.v hm).imp fun σ H Q zz3 => by
    obtain ⟨W, ρ, k, hR, he, q⟩ := zz3
    have he' : (zg fn (.prim pr (.cons ca (.cons cb .nil))) ρ).bind yi = some k := by
      rw [Yf] at he
      rw [xg]
      simp only [jo1] at he ⊢
      obtain ⟨rs, e1, r, e2, e3⟩ := he
      exact ⟨r, ⟨rs, e1, e2⟩, e3⟩
    rw [jo1] at he'
    obtain ⟨r, e1, e2⟩ := he'
    have e1' := e1
    rw [xg] at e1'
    simp only [jo1] at e1'
    obtain ⟨rs, _, e3⟩ := e1'
    obtain ⟨b, rfl⟩ := zaY hp e3
    simp only [yi] at e2
    cases e2
    exact Vo hR e1 fun v H' s h => by
      cases h with
      | val h => cases h; exact ⟨_, rfl, q H' s⟩
theorem zhJ {op op' : CmpOp} {p q : Prim} (hp : Vp p = true) (hq' : Vp q = true) (ho : OpR X (compareOp op) (yw X.K (ze p))) (ho' : OpR X (compareOp op') (yw X.K (ze q))) (ha : IE X fn a ca) (hb : IE X fn b cb) (hc : IE X fn c cc)
    (hm : lastMarks [op, op'] [b, c] = false := by with_unfolding_all rfl) : IT X fn (.Compare a [op, op'] [b, c] pos) (.chain p q ca cb cc) :=
  .mk <| (zfH ho ho' ha.v hb.v hc.v hm).imp fun σ H Q zz3 => by
    obtain ⟨W, ρ, k, hR, he, hq⟩ := zz3
    simp only [zhe, jo1] at he
    obtain ⟨r1, e1, r2, e2, z, e3, e4⟩ := he
    refine ⟨W, ρ, r1, hR, e1, fun v1 H1 s1 f1 => ⟨W, ρ, r2, hR.same s1, e2, fun v2 H2 s2 f2 => ?_⟩⟩
    refine ⟨W, _, z, hR.wf' (s1.trans s2), .cons (f1.same s2).sees (.cons f2.sees .nil), e3, fun v H3 s3 h3 => ?_⟩
    split at e4
    · cases h3 with
      | val h3 =>
        cases h3
        simp only [jo1] at e4
        obtain ⟨r3, e5, r4, e6, e7⟩ := e4
        refine ⟨true, rfl, ?_⟩
        rw [if_pos rfl]
        have s13 := (s1.trans s2).trans s3
        refine ⟨W, ρ, r3, hR.same s13, e5, fun v4 H4 s4 f4 => ?_⟩
        refine ⟨W, _, r4, hR.wf' (s13.trans s4), .cons ((f2.same s3).same s4).sees (.cons f4.sees .nil), e6, fun v5 H5 s5 h5 => ?_⟩
        obtain ⟨b5, rfl⟩ := zaY hq' e6
        simp only [yi] at e7
        cases e7
        cases h5 with
        | val h5 => cases h5; exact ⟨_, rfl, hq H5 (s13.trans (s4.trans s5))⟩
    · cases h3 with
      | val h3 =>
        cases h3; cases e4
        exact ⟨false, rfl, by rw [if_neg Bool.false_ne_true]; exact ⟨false, rfl, hq H3 ((s1.trans s2).trans s3)⟩⟩
    · cases e4
theorem zhK {K : PySem.W.Frag} {W : Addr → Prop} {H : Hp} {r : SV} {v : V} {k : Bool} (f : Frz K W H r v) (h : yi r = some k) : JT K v H k := by
  unfold yi at h
  split at h
  · cases h; cases f with | val f => cases f; rfl
  · cases h; cases f with | val f => cases f; rfl
  · cases h; cases f with | val f => cases f; rfl
  · rename_i l
    cases h
    obtain ⟨a, xs, rfl, hq, rp⟩ := Frz.sees f |>.tup
    refine .inr (.inl ⟨xs, hq, ?_⟩)
    cases rp <;> rfl
  · cases h
    obtain ⟨a, xs, rfl, hq, rp⟩ := Frz.sees f |>.lst
    refine .inl ⟨xs, hq, ?_⟩
    cases rp <;> rfl
  · cases h
    obtain ⟨a, xs, rfl, hq, rp⟩ := Frz.sees f |>.lst
    refine .inl ⟨xs, hq, ?_⟩
    cases rp <;> rfl
  · cases h
theorem xJ (hE : IE X fn e ce) (hev : ∀ ρ, zv fn ce ρ = (zg fn ce ρ).bind yi) (he : ∀ whole, isTrue e X.env whole = (do let v ← whole; standAt e.pos; holding [v] (truthy v)) := by intro _; rfl) : IT X fn e ce :=
  .mk <| (zfK hE.v he).imp fun σ H Q zz3 => by
    obtain ⟨W, ρ, k, hR, ht, q⟩ := zz3
    rw [hev, jo1] at ht
    obtain ⟨r, e1, e2⟩ := ht
    exact ⟨W, ρ, r, hR, e1, fun v H1 s1 f => ⟨k, zhK f e2, q H1 s1⟩⟩
theorem zhL (i : Nat) : ∀ ρ, zv fn (.var i) ρ = (zg fn (.var i) ρ).bind yi := fun ρ => id rfl
theorem Vq (p : Prim) (cs : Es) : ∀ ρ, zv fn (.prim p cs) ρ = (zg fn (.prim p cs) ρ).bind yi := fun ρ => by rw [Yf, xg, Option.bind_assoc]
theorem vA (f : Nat) (cs : Es) : ∀ ρ, zv fn (.call f cs) ρ = (zg fn (.call f cs) ρ).bind yi := fun ρ => by rw [zhf, zaz, Option.bind_assoc]
end
end L2.LW
set_option maxHeartbeats 4000000
namespace L2.LW
open PySem PySem.Spec PyProof.Rows
noncomputable def QM (K : PySem.W.Frag) (fn : Nat → List D → Option SV) (i : Nat) : Sp := fun vs H Q _ => ∃ W ds r, Wf W H ∧ Reps K W H ds vs ∧ fn i ds = some r ∧ ∀ v H', Same H H' → Res K W H H' r v → Q v H'
structure ARep (K : PySem.W.Frag) (W : Addr → Prop) (H : Hp) (io : List Nat) (ds : List D) (vs : List V) : Prop where
  len : ds.length = vs.length
  val : ∀ (k : Nat) (d : D), ds[k]? = some d → k ∉ io → ∃ v, vs[k]? = some v ∧ Rep K W H d v
  obj : ∀ (k : Nat) (d : D), ds[k]? = some d → k ∈ io → ∃ a o, vs[k]? = some (.ref a) ∧ W a ∧ H a = some o ∧ ORep K W H d o
  inj : ∀ (j k : Nat) (a : Addr), j ∈ io → k ∈ io → vs[j]? = some (.ref a) → vs[k]? = some (.ref a) → j = k
noncomputable def QN (io : List Nat) (vs : List V) (a : Addr) : Prop := ∃ k ∈ io, vs[k]? = some (.ref a)
noncomputable def zaZ (K : PySem.W.Frag) (W : Addr → Prop) (H : Hp) (io : List Nat) (vs : List V) (outs : List D) : Prop :=
  Paired (fun k d => ∃ a o, vs[k]? = some (.ref a) ∧ H a = some o ∧ ORep K W H d o) io outs
noncomputable def vc (K : PySem.W.Frag) (fa : Nat → List D → Option Ans) (i : Nat) (io : List Nat) : Sp := fun vs H Q _ => ∃ W ds r outs, Wf W H ∧ ARep K W H io ds vs ∧ fa i ds = some (.ok r outs) ∧
  ∀ v H', (∀ a o, H a = some o → ¬ QN io vs a → H' a = some o) → zaZ K W H' io vs outs → Res K W H H' r v → Q v H'
theorem Reps.get' {K : PySem.W.Frag} {W : Addr → Prop} {H : Hp} {ds : List D} {vs : List V} (r : Reps K W H ds vs) : ARep K W H [] ds vs :=
  ⟨r.length, fun k d h _ => r.get h, fun k d _ h => (by cases h), fun j k a h => (by cases h)⟩
theorem za0 {fa : Nat → List D → Option Ans} {i : Nat} {ds : List D} {r : SV} (h : zx fa i ds = some r) : fa i ds = some (.ok r []) := by
  unfold zx at h
  split at h
  · rename_i r' e; cases h; exact e
  · cases h
theorem zJ {Pg : Program} {w : World} {K : PySem.W.Frag} {mg : Str → Option Value} {base : Heap} {k : Nat} {f : Addr} {fd : FuncData} {ps : List Str} {fa : Nat → List D → Option Ans} {i : Nat} {io : List Nat}
    (F : FnOk Pg w K mg base xx k f fd ps (vc K fa i io)) (h : io = []) : FnOk Pg w K mg base xx k f fd ps (QM K (zx fa) i) := by
  subst h
  exact F.imp fun vs H Q E ⟨W, ds, r, wf, rp, e, q⟩ => ⟨W, ds, r, [], wf, rp.get', za0 e, fun v H' k _ res => q v H' (fun a o h => k a o h fun ⟨_, z, _⟩ => by cases z) res⟩
theorem za1 {K : PySem.W.Frag} {W : Addr → Prop} {H : Hp} : ∀ {rs : List SV} {vs : List V}, Paired (Frz K W H) rs vs → rs.any SV.lent = false → Reps K W H (rs.map zq) vs
  | _, _, .nil, _ => .nil
  | _, _, .cons h t, e => by
    simp only [List.any_cons, Bool.or_eq_false_iff] at e
    refine .cons ?_ (za1 t e.2)
    cases h with
    | val h => exact h
    | lis h e' r => exact r.rep h e'
    | see h e' r => simp [SV.lent] at e
theorem za2 {K : PySem.W.Frag} {W : Addr → Prop} {H : Hp} : ∀ {rs : List SV} {vs : List V}, Paired (Frz K W H) rs vs → Reps K (fun _ => False) H (rs.map zq) vs
  | _, _, .nil => .nil
  | _, _, .cons h t => by
    refine .cons ?_ (za2 t)
    cases h with
    | val h => exact h.less fun _ z => z.elim
    | lis h e' r => exact (r.less fun _ z => z.elim).rep (fun z => z) e'
    | see h e' r => exact (r.less fun _ z => z.elim).rep (fun z => z) e'
theorem Res.plain {K : PySem.W.Frag} {W W' : Addr → Prop} {H H' : Hp} {r : SV} {v : V} (h : Res K W' H H' r v) (wf : ∀ a, W' a → W a) (p : r.plain = true) : Res K W H H' r v := by
  cases h with
  | val h => exact .val (h.plain p)
  | new h e r => exact .new h e (r.plain p)
  | see h e r => exact .see (wf _ h) e (r.plain p)
section
variable {X : Cx} {fn : Nat → List D → Option SV} {fuel : Nat} {a b c e : Expr} {ca cb cc ce : E} {es : List Expr} {cs : Es} {pos p : Pos} {x : Str}
theorem zK {k : Nat} {f : Addr} {fd : FuncData} {ps : List Str} {i : Nat} (F : FnOk X.prog X.w X.K X.mg X.base xx k f fd ps (QM X.K fn i)) (hr : Room k X.A) (hg : Gl X x) (hm : X.mg x = some (.ref f)) (hk : PySem.W.keepIn X.K (.ref f) = true)
    (hb : Binds X.K fd ps []) (ha : IA X fn (e :: es) cs) (hdb : (x == ("__debug__" : Str)) = false := by decide) (he : starEach (e :: es) X.env = (false, eval e X.env) :: starEach es X.env := by rfl)
    (hpl : (backTo pos (starEach es X.env)).any (·.1) = false := by rfl) : IE X fn (.Call (.Name x p) (e :: es) [] pos) (.call i cs) :=
  .mk <| (zfT F hr hg hm hk hb .nil zgA ha.h hdb he hpl).imp fun σ H Q zz3 => by
    obtain ⟨W, ρ, r, hR, h, q⟩ := zz3
    simp only [zaz, jo1, xR] at h
    obtain ⟨rs, e1, r', e2, e3⟩ := h
    split at e3
    · cases e3
    · rename_i hc
      cases e3
      refine ⟨W, ρ, rs, hR, e1, fun vs H1 s1 f => ?_⟩
      show QM X.K fn i (vs ++ []) H1 Q E0
      rw [List.append_nil]
      cases hl : rs.any SV.lent with
      | false => exact ⟨W, _, r, hR.wf' s1, za1 f hl, e2, fun v H' s2 h => q v H' (s1.trans s2) (h.back s1)⟩
      | true =>
        have hp : r.plain = true := by
          cases hp : r.plain with
          | true => rfl
          | false => exact absurd (by rw [hl, hp]; rfl) hc
        exact ⟨fun _ => False, _, r, fun _ z => z.elim, za2 f, e2, fun v H' s2 h => q v H' (s1.trans s2) ((h.plain (fun _ z => z.elim) hp).back s1)⟩
section
variable {K : PySem.W.Frag} {W : Addr → Prop} {ρ : LW.Env} {σ : St} {H H' : Hp} {i j : Nat} {d : D} {v : V}
theorem yz {α : Type} {l : List α} {i j : Nat} {x y : α} (h : (l.set i x)[j]? = some y) : (i = j ∧ y = x ∧ j < l.length) ∨ (i ≠ j ∧ l[j]? = some y) := by
  rw [List.getElem?_set] at h
  split at h
  · rename_i e
    subst e
    split at h
    · cases h; exact .inl ⟨rfl, rfl, by assumption⟩
    · cases h
  · exact .inr ⟨by assumption, h⟩
theorem jo {α : Type} {l : List α} {i : Nat} {x : α} (h : i < l.length) : (l.set i x)[i]? = some x := by simp [h]
theorem xk {α : Type} {l : List α} {i j : Nat} {x : α} (h : i ≠ j) : (l.set i x)[j]? = l[j]? := List.getElem?_set_ne h
theorem R.set_val (r : R K W ρ σ H) (h : Rep K W H d v) : R K W (ρ.set i (some (.val d))) (σ.set i (some v)) H := by
  refine ⟨fun j e hj => ?_, fun j e hj => ?_, fun j x e hj hc => ?_, fun j k x y e1 e2 a h1 h2 c1 c2 h3 h4 => ?_, r.wf, by simpa using r.len⟩
  · rcases yz hj with ⟨rfl, z, hl⟩ | ⟨n, z⟩
    · cases z
      exact ⟨v, jo (by rw [← r.len]; exact hl), h⟩
    · obtain ⟨u, h1, h2⟩ := r.val j e z
      exact ⟨u, by rw [xk n]; exact h1, h2⟩
  · rcases yz hj with ⟨rfl, z, hl⟩ | ⟨n, z⟩
    · cases z
    · exact r.nol j e z
  · rcases yz hj with ⟨rfl, z, hl⟩ | ⟨n, z⟩
    · cases z; cases hc
    · obtain ⟨a, o, h1, h2⟩ := r.own j x e z hc
      exact ⟨a, o, by rw [xk n]; exact h1, h2⟩
  · rcases yz h1 with ⟨rfl, z, hl⟩ | ⟨n, z⟩
    · cases z; cases c1
    · rcases yz h2 with ⟨rfl, z', hl⟩ | ⟨n', z'⟩
      · cases z'; cases c2
      · rw [xk n] at h3
        rw [xk n'] at h4
        exact r.inj j k x y e1 e2 a z z' c1 c2 h3 h4
theorem zhM {a : Addr} (h : xo (ρ.set i (some (.val d))) (σ.set i (some v)) a) : xo ρ σ a := by
  obtain ⟨j, x, e, h1, hc, h2⟩ := h
  rcases yz h1 with ⟨rfl, z, hl⟩ | ⟨n, z⟩
  · cases z; cases hc
  · rw [xk n] at h2
    exact ⟨j, x, e, z, hc, h2⟩
theorem Yt {x : SV} (hx : ∀ d, x ≠ .io d) (hf : ¬ xi ρ i) (j : Nat) : (xi (ρ.set i (some x)) j ↔ xi ρ j) ∧ (xi ρ j → i ≠ j) := by
  refine ⟨⟨fun ⟨d, h⟩ => ?_, fun ⟨d, h⟩ => ?_⟩, fun h e => hf (by rw [e]; exact h)⟩
  · rcases yz h with ⟨rfl, z, hl⟩ | ⟨n, z⟩
    · cases z; exact absurd rfl (hx d)
    · exact ⟨d, z⟩
  · exact ⟨d, by rw [xk (fun e => hf (by rw [e]; exact ⟨d, h⟩))]; exact h⟩
theorem za3 (r : R K W ρ σ H) (s : Same H H') (h : Rep K W H' d v) (hf : ¬ xi ρ i) : SPost K W ρ σ H W (ρ.set i (some (.val d))) (σ.set i (some v)) H' :=
  ⟨(r.same s).set_val h, fun a o q _ => s a o q, fun a w => .inl w, fun a w n => ⟨w, fun z => n (zhM z)⟩, fun j => ⟨(Yt (x := .val d) (fun _ z => (nomatch z)) hf j).1, fun z => xk ((Yt (x := .val d) (fun _ z => (nomatch z)) hf j).2 z)⟩⟩
theorem zhN {a : Addr} (wf : Wf W H) (s : Same H H') {o : HO} (e : H' a = some o) : Wf (add W a) H' := fun b w => by
  rcases w with w | rfl
  · cases q : H b with
    | none => exact absurd q (wf b w)
    | some u => rw [s b u q]; exact fun z => nomatch z
  · rw [e]; exact fun z => nomatch z
theorem Vr {a : Addr} (s : Same H H') (h : H a = Option.none) : Ext W H (add W a) H' :=
  ⟨fun b o q _ => s b o q, fun b xs q => s b _ q, fun b o u q => s b _ q, fun b w => by
    rcases w with w | rfl
    · exact .inl w
    · exact .inr h⟩
theorem R.add {a : Addr} {o : HO} (r : R K W ρ σ H) (s : Same H H') (h : H a = Option.none) (e : H' a = some o) : R K (LW.add W a) ρ σ H' := by
  refine ⟨fun j d hj => ?_, r.nol, fun j x d hj hc => ?_, r.inj, zhN r.wf s e, r.len⟩
  · obtain ⟨u, h1, h2⟩ := r.val j d hj
    exact ⟨u, h1, h2.ext (Vr s h)⟩
  · obtain ⟨b, o, h1, h2, h3, h4⟩ := r.own j x d hj hc
    exact ⟨b, o, h1, .inl h2, s _ _ h3, h4.ext (Vr s h)⟩
theorem R.noOwn {a : Addr} (r : R K W ρ σ H) (h : H a = Option.none) : ¬ xo ρ σ a := fun z => by
  obtain ⟨_, o, d, e, _⟩ := r.ownW z
  rw [h] at e; cases e
theorem za4 {a : Addr} {o : HO} (r : R K W ρ σ H) (s : Same H H') (h : H a = Option.none) (e : H' a = some o) (rp : ORep K (LW.add W a) H' d o) (hf : ¬ xi ρ i) :
    SPost K W ρ σ H (LW.add W a) (ρ.set i (some (.obj true d))) (σ.set i (some (.ref a))) H' := by
  have ra := r.add s h e
  refine ⟨⟨fun j d hj => ?_, fun j d hj => ?_, fun j x es hj hc => ?_, fun j k x y e1 e2 b h1 h2 c1 c2 h3 h4 => ?_, ra.wf, by simpa using r.len⟩, fun b o q _ => s b o q, (Vr (W := W) s h).win, fun b w n => ⟨.inl w, fun z => ?_⟩,
    fun j => ⟨(Yt (x := .obj true d) (fun _ z => (nomatch z)) hf j).1, fun z => xk ((Yt (x := .obj true d) (fun _ z => (nomatch z)) hf j).2 z)⟩⟩
  · rcases yz hj with ⟨rfl, z, hl⟩ | ⟨n, z⟩
    · cases z
    · obtain ⟨u, h1, h2⟩ := ra.val j d z
      exact ⟨u, by rw [xk n]; exact h1, h2⟩
  · rcases yz hj with ⟨rfl, z, hl⟩ | ⟨n, z⟩
    · cases z
    · exact r.nol j d z
  · rcases yz hj with ⟨rfl, z, hl⟩ | ⟨n, z⟩
    · cases z; cases hc
      exact ⟨a, o, jo (by rw [← r.len]; exact hl), .inr rfl, e, rp⟩
    · obtain ⟨b, ys, h1, h2⟩ := ra.own j x es z hc
      exact ⟨b, ys, by rw [xk n]; exact h1, h2⟩
  · have other : ∀ {k : Nat} {x : SV} {e : D}, ρ[k]? = some (some x) → x.cell = some e → σ[k]? = some (some (.ref a)) → False := fun {k x e} q1 q3 q2 => r.noOwn h ⟨k, x, e, q1, q3, q2⟩
    rcases yz h1 with ⟨rfl, z, hl⟩ | ⟨n, z⟩
    · rcases yz h2 with ⟨rfl, _, _⟩ | ⟨n', z'⟩
      · rfl
      · rw [jo (by rw [← r.len]; exact hl)] at h3
        cases h3
        rw [xk n'] at h4
        exact (other z' c2 h4).elim
    · rcases yz h2 with ⟨rfl, z', hl⟩ | ⟨n', z'⟩
      · rw [jo (by rw [← r.len]; exact hl)] at h4
        cases h4
        rw [xk n] at h3
        exact (other z c1 h3).elim
      · rw [xk n] at h3
        rw [xk n'] at h4
        exact r.inj j k x y e1 e2 b z z' c1 c2 h3 h4
  · obtain ⟨j, x, es, h1, hc, h2⟩ := z
    rcases yz h1 with ⟨rfl, _, hl⟩ | ⟨n', z'⟩
    · rw [jo (by rw [← r.len]; exact hl)] at h2
      cases h2
      exact r.wf _ w h
    · rw [xk n'] at h2
      exact n ⟨j, x, es, z', hc, h2⟩
noncomputable def Vs (W : Addr → Prop) (a : Addr) : Addr → Prop := fun b => W b ∧ b ≠ a
theorem QO {a : Addr} : ∀ b, Vs W a b → W b := fun _ h => h.1
theorem zhO {a : Addr} {o : Bool} (r : R K W ρ σ H) (h : ρ[j]? = some (some (.obj o d))) (h' : σ[j]? = some (some (.ref a))) :
    SPost K W ρ σ H (Vs W a) (ρ.set j (some (.val d))) σ H ∧ Rep K (Vs W a) H d (.ref a) := by
  cases o with
  | false => exact absurd h (r.nol j d)
  | true =>
  obtain ⟨a', o, e1, e2, e3, e4⟩ := r.own j _ d h rfl
  rw [h'] at e1; cases e1
  have rp : Rep K (Vs W a) H d (.ref a) := (e4.less QO).rep (fun z => z.2 rfl) e3
  have nio : ¬ xi ρ j := fun ⟨d', z⟩ => by rw [h] at z; cases z
  refine ⟨⟨⟨fun k d' hk => ?_, fun k d' hk => ?_, fun k x es hk hc => ?_, fun k l x y e1 e2 b h1 h2 c1 c2 h3 h4 => ?_, fun b w => r.wf b w.1, by simpa using r.len⟩, fun b o q _ => q, fun b w => .inl w.1, fun b w n => ⟨⟨w, fun z => ?_⟩, fun z => ?_⟩,
    fun k => ⟨(Yt (x := .val d) (fun _ z => (nomatch z)) nio k).1, fun _ => rfl⟩⟩, rp⟩
  · rcases yz hk with ⟨rfl, z, hl⟩ | ⟨n, z⟩
    · cases z; exact ⟨_, h', rp⟩
    · obtain ⟨u, h1, h2⟩ := r.val k d' z
      exact ⟨u, h1, h2.less QO⟩
  · rcases yz hk with ⟨rfl, z, hl⟩ | ⟨n, z⟩
    · cases z
    · exact r.nol k d' z
  · rcases yz hk with ⟨rfl, z, hl⟩ | ⟨n, z⟩
    · cases z; cases hc
    · obtain ⟨b, ys, h1, h2, h3, h4⟩ := r.own k x es z hc
      refine ⟨b, ys, h1, ⟨h2, fun z' => ?_⟩, h3, h4.less QO⟩
      subst z'
      exact n (r.inj j k _ x d es b h z rfl hc h' h1)
  · rcases yz h1 with ⟨rfl, z, hl⟩ | ⟨n, z⟩
    · cases z; cases c1
    · rcases yz h2 with ⟨rfl, z', hl⟩ | ⟨n', z'⟩
      · cases z'; cases c2
      · exact r.inj k l x y e1 e2 b z z' c1 c2 h3 h4
  · subst z
    exact n ⟨j, _, d, h, rfl, h'⟩
  · obtain ⟨k, x, es, h1, hc, h2⟩ := z
    rcases yz h1 with ⟨rfl, z, hl⟩ | ⟨n', z⟩
    · cases z; cases hc
    · exact n ⟨k, x, es, z, hc, h2⟩
theorem zhP (x : SV) (d : D) : (x.put d).cell = some d := by cases x <;> rfl
theorem zhQ (x : SV) (d d' : D) : x.put d ≠ .val d' := by cases x <;> exact fun z => nomatch z
theorem zhR (x : SV) (d d' : D) : x.put d ≠ .obj false d' := by
  cases x <;> intro z <;> first | cases z | (simp [SV.put] at z)
theorem za5 {x : SV} {d : D} : (∃ d', x.put d = .io d') ↔ ∃ d', x = .io d' := by
  cases x with
  | io y => exact ⟨fun _ => ⟨_, rfl⟩, fun _ => ⟨_, rfl⟩⟩
  | _ => exact ⟨fun ⟨_, z⟩ => (nomatch z), fun ⟨_, z⟩ => (nomatch z)⟩
theorem QP {a : Addr} {x : SV} {d0 d' : D} {o o' : HO} (r : R K W ρ σ H) (h : ρ[i]? = some (some x)) (hc : x.cell = some d0) (h' : σ[i]? = some (some (.ref a))) (s : Same H H') (e : H' a = some o) (hk : (∀ xs, o ≠ .tup xs) ∧ (∀ b u, o ≠ .frz b u))
    (rp : ORep K W H' d' o') : SPost K W ρ σ H W (ρ.set i (some (x.put d'))) σ (zr H' a o') := by
  have r' := r.same s
  have hO : xo ρ σ a := ⟨i, x, d0, h, hc, h'⟩
  have hW : W a := (r.ownW hO).1
  have ext : Ext W H' W (zr H' a o') := by
    refine ⟨fun b o q n => ?_, fun b ys q => ?_, fun b o u q => ?_, fun b w => .inl w⟩
    · rw [zw (fun z => n (by rw [z]; exact hW))]; exact q
    · rw [zw (fun z => by rw [z, e] at q; cases q; exact hk.1 _ rfl)]; exact q
    · rw [zw (fun z => by rw [z, e] at q; cases q; exact hk.2 _ _ rfl)]; exact q
  have old : ∀ {k : Nat} {y : SV} {es : D}, (ρ.set i (some (x.put d')))[k]? = some (some y) → y.cell = some es → ∃ y' es', ρ[k]? = some (some y') ∧ y'.cell = some es' := fun {k y es} q c => by
    rcases yz q with ⟨rfl, _, _⟩ | ⟨_, z⟩
    · exact ⟨_, _, h, hc⟩
    · exact ⟨_, _, z, c⟩
  refine ⟨⟨fun k d' hk => ?_, fun k d' hk => ?_, fun k y es hk hc' => ?_, fun k l x y e1 e2 b h1 h2 c1 c2 h3 h4 => ?_, fun b w => ?_, by simpa using r.len⟩, fun b o q n => ?_, fun b w => .inl w, fun b w n => ⟨w, fun z => ?_⟩, fun j => ⟨?_, fun _ => rfl⟩⟩
  · rcases yz hk with ⟨rfl, z, hl⟩ | ⟨n, z⟩
    · exact absurd (Option.some.inj z).symm (zhQ _ _ _)
    · obtain ⟨u, h1, h2⟩ := r'.val k d' z
      exact ⟨u, h1, h2.ext ext⟩
  · rcases yz hk with ⟨rfl, z, hl⟩ | ⟨n, z⟩
    · exact absurd (Option.some.inj z).symm (zhR _ _ _)
    · exact r.nol k d' z
  · rcases yz hk with ⟨rfl, z, hl⟩ | ⟨n, z⟩
    · cases z
      rw [zhP] at hc'
      cases hc'
      exact ⟨a, _, h', hW, yf, rp.ext ext⟩
    · obtain ⟨b, ys, h1, h2, h3, h4⟩ := r'.own k y es z hc'
      refine ⟨b, ys, h1, h2, ?_, h4.ext ext⟩
      rw [zw (fun z' => by subst z'; exact n (r.inj i k x y d0 es b h z hc hc' h' h1))]
      exact h3
  · obtain ⟨_, _, z1, w1⟩ := old h1 c1
    obtain ⟨_, _, z2, w2⟩ := old h2 c2
    exact r.inj k l _ _ _ _ b z1 z2 w1 w2 h3 h4
  · by_cases z : b = a
    · subst z; rw [yf]; exact fun z => nomatch z
    · rw [zw z]; exact r'.wf b w
  · rw [zw (fun z => n (by rw [z]; exact hO))]
    exact s b o q
  · obtain ⟨k, y, es, h1, hc', h2⟩ := z
    obtain ⟨_, _, z, w⟩ := old h1 hc'
    exact n ⟨k, _, _, z, w, h2⟩
  · by_cases e : i = j
    · subst e
      have hl : i < ρ.length := by
        obtain ⟨z, _⟩ := List.getElem?_eq_some_iff.mp h; exact z
      constructor
      · rintro ⟨d', z⟩
        rw [jo hl] at z
        have z := Option.some.inj (Option.some.inj z)
        obtain ⟨d2, w⟩ := za5.mp ⟨d', z⟩
        exact ⟨d2, by rw [h, w]⟩
      · rintro ⟨d2, z⟩
        rw [h] at z
        obtain ⟨d3, w⟩ := za5 (d := d').mpr ⟨d2, Option.some.inj (Option.some.inj z)⟩
        exact ⟨d3, by rw [jo hl, w]⟩
    · unfold xi; rw [xk e]
end
theorem Ret.back {K : PySem.W.Frag} {W W1 W2 : Addr → Prop} {ρ ρ1 : LW.Env} {σ σ1 : St} {H H1 H2 : Hp} {r : SV} {v : V} (p : SPost K W ρ σ H W1 ρ1 σ1 H1) (h : Ret K W1 ρ1 σ1 W2 H2 r v) : Ret K W ρ σ W2 H2 r v := by
  cases h with
  | val h => exact .val h
  | new h n n' e r => exact .new h (fun ⟨w, z⟩ => n (p.wout _ w z)) (fun ⟨i, z1, z2⟩ => n' ⟨i, (p.io i).1.mpr z1, by rw [(p.io i).2 z1]; exact z2⟩) e r
theorem FlOk.back {K : PySem.W.Frag} {W W1 W2 : Addr → Prop} {ρ ρ1 ρ2 : LW.Env} {σ σ1 σ2 : St} {H H1 H2 : Hp} {D : Ends} {fl : Fl} (p : SPost K W ρ σ H W1 ρ1 σ1 H1) (h : FlOk K W ρ σ W2 ρ2 σ2 H2 D fl) : FlOk K W1 ρ1 σ1 W2 ρ2 σ2 H2 D fl := by
  cases fl with
  | rt r => exact fun v q => h v (q.back p)
  | _ => exact h
structure IS (X : Cx) (ex : LW.Env → Option (Fl × LW.Env)) (st : Stmt) : Prop where
  h : PS X st (Yi X.K ex)
structure ISs (X : Cx) (ex : LW.Env → Option (Fl × LW.Env)) (st : List Stmt) : Prop where
  h : PSs X st (Yi X.K ex)
variable {fa : Nat → List D → Option Ans} {st : Stmt} {sts : List Stmt} {s : S} {ss s1 s2 : Ss}
theorem zu : ISs X (zy fa fuel .nil) [] := .mk <| XD.imp fun D σ H zz3 => by
  obtain ⟨W, ρ, x, hR, hx, q⟩ := zz3
  simp only [zhq] at hx; cases hx; exact q W σ H (.same hR (.refl H))
theorem zj (h1 : IS X (zB fa fuel s) st) (h2 : ISs X (zy fa fuel ss) sts) : ISs X (zy fa fuel (.cons s ss)) (st :: sts) :=
  .mk <| (jJ h1.h h2.h).imp fun D σ H zz3 => by
    obtain ⟨W, ρ, x, hR, hx, q⟩ := zz3
    simp only [zaG, jo1] at hx
    obtain ⟨⟨fl, ρ1⟩, e1, e2⟩ := hx
    refine ⟨W, ρ, (fl, ρ1), hR, e1, fun W1 σ1 H1 p1 => ?_⟩
    cases fl with
    | nx => exact ⟨W1, ρ1, x, p1.r, e2, fun W2 σ2 H2 p2 => FlOk.back p1 (q W2 σ2 H2 (p1.trans p2 hR))⟩
    | br => cases e2; exact q W1 σ1 H1 p1
    | ct => cases e2; exact q W1 σ1 H1 p1
    | rt r => cases e2; exact q W1 σ1 H1 p1
theorem Zg (he : IE X (zx fa) e ce) (hs : swapsWith e Option.none pos.line X.env = pure false := by rfl) : IS X (zB fa fuel (.expr ce)) (.Expr e pos) :=
  .mk <| (JL he.h hs).imp fun D σ H zz3 => by
    obtain ⟨W, ρ, x, hR, hx, q⟩ := zz3
    simp only [zhg, jo2] at hx
    obtain ⟨r, e1, rfl⟩ := hx
    exact ⟨W, ρ, r, hR, e1, fun v H1 s1 _ => q W σ H1 (.same hR s1)⟩
theorem yj (i : Nat) {pos' : Pos} (hN : X.N.Nodup) (hi : X.N[i]? = some x) (hx : wA X.env.scope x) (he : IE X (zx fa) e ce) (hs : swapsWith e (some (.Name x pos')) pos.line X.env = pure false := by rfl)
    (hf : X.fn x = true ∨ X.env.scope.names.lookup x = some .local := by first | exact .inl rfl | exact .inr rfl | assumption) : IS X (zB fa fuel (.asg i ce)) (.Assign [.Name x pos'] e pos) :=
  .mk <| (JO hN hi hx he.h hs hf).imp fun D σ H zz3 => by
    obtain ⟨W, ρ, y, hR, hy, q⟩ := zz3
    simp only [zaC, jo1] at hy
    obtain ⟨r, e1, e2⟩ := hy
    split at e2
    · cases e2
    · rename_i hl
      cases e2
      simp only [Bool.not_eq_true, Bool.or_eq_false_iff, Bool.not_eq_false'] at hl
      refine ⟨W, ρ, r, hR, e1, fun v H1 s1 h => ?_⟩
      cases h with
      | val h => exact q W _ H1 (za3 hR s1 h (Yh hl.2))
      | new h e r => exact q _ _ H1 (za4 hR s1 h e r (Yh hl.2))
      | see h e r => simp [SV.lent] at hl
theorem yk (he : IE X (zx fa) e ce) : IS X (zB fa fuel (.ret ce)) (.Return (some e) pos) :=
  .mk <| (gr he.h).imp fun D σ H zz3 => by
    obtain ⟨W, ρ, y, hR, hy, q⟩ := zz3
    simp only [zhi, jo1] at hy
    obtain ⟨r, e1, e2⟩ := hy
    split at e2
    · cases e2
    · rename_i hl
      cases e2
      refine ⟨W, ρ, r, hR, e1, fun v H1 s1 h => ?_⟩
      cases h with
      | val h => exact q W σ H1 (.same hR s1) v (.val h)
      | new h e r =>
        refine q _ σ H1 ⟨hR.add s1 h e, fun b o q _ => s1 b o q, (Vr (W := W) s1 h).win, fun b w n => ⟨.inl w, n⟩, fun _ => ⟨.rfl, fun _ => rfl⟩⟩ _ (.new (.inr rfl) (fun z => hR.wf _ z.1 h) (fun ⟨i, ⟨d, z1⟩, z2⟩ => hR.noOwn h ⟨i, _, d, z1, rfl, z2⟩) e r)
      | see h e r => simp [SV.lent] at hl
theorem Zh (i : Nat) (hN : X.N[i]? = some x) (hv : wz X.env.scope x) (hd : (x == ("__debug__" : Str)) = false := by decide) (hcd : (x == ("__classdict__" : Str)) = false := by decide) : IS X (zB fa fuel (.retV i)) (.Return (some (.Name x p)) pos) :=
  .mk <| (gr (yC hN hv hd hcd)).imp fun D σ H zz3 => by
    obtain ⟨W, ρ, y, hR, hy, q⟩ := zz3
    simp only [zaF] at hy
    split at hy
    · rename_i d h
      cases hy
      obtain ⟨v, h1, h2⟩ := hR.val i d h
      exact ⟨v, h1, q W σ H (.same hR (.refl H)) v (.val h2)⟩
    · rename_i o ds h
      cases hy
      cases o with
      | false => exact absurd h (hR.nol i ds)
      | true =>
      obtain ⟨a, xs, h1, h2, h3, h4⟩ := hR.own i _ ds h rfl
      refine ⟨_, h1, q W σ H ?_ _ (.new h2 (fun z => z.2 ⟨i, _, ds, h, rfl, h1⟩) (fun zz0 => by
        obtain ⟨j, ⟨d', z1⟩, z2⟩ := zz0
        have := hR.inj i j _ _ ds d' a h z1 rfl rfl h1 z2
        subst this
        rw [h] at z1; cases z1) h3 h4)⟩
      have old : ∀ {k : Nat} {z : SV}, (ρ.set i Option.none)[k]? = some (some z) → ρ[k]? = some (some z) := fun {k z} q => by
        rcases yz q with ⟨_, w, _⟩ | ⟨_, w⟩
        · cases w
        · exact w
      exact ⟨⟨fun k d hk => hR.val k d (old hk), fun k d hk => hR.nol k d (old hk), fun k o es hk => hR.own k o es (old hk), fun k l x y e1 e2 b z1 z2 => hR.inj k l x y e1 e2 b (old z1) (old z2), hR.wf, by simpa using hR.len⟩, fun b o q _ => q, fun b w => .inl w, fun b w n => ⟨w, fun ⟨k, x, es, z1, c, z2⟩ => n ⟨k, x, es, old z1, c, z2⟩⟩,
        fun k => ⟨⟨fun ⟨d', z⟩ => ⟨d', old z⟩, fun ⟨d', z⟩ => ⟨d', by rw [xk (fun e => by subst e; rw [h] at z; cases z)]; exact z⟩⟩, fun _ => rfl⟩⟩
    · cases hy
theorem QQ : IS X (zB fa fuel .stop) st := .mk <| zfa.imp fun D σ H zz3 => by
  obtain ⟨W, ρ, y, hR, hy, q⟩ := zz3
  simp only [zho] at hy; cases hy
theorem yS (hc : IT X (zx fa) c cc) (h1 : ISs X (zy fa fuel s1) sts) (h2 : ISs X (zy fa fuel s2) sts') : IS X (zB fa fuel (.ifs cc s1 s2)) (.If c sts sts' pos) :=
  .mk <| (XF hc.h h1.h h2.h).imp fun D σ H zz3 => by
    obtain ⟨W, ρ, y, hR, hy, q⟩ := zz3
    simp only [zhj, jo1] at hy
    obtain ⟨k, e1, e2⟩ := hy
    refine ⟨W, ρ, k, hR, e1, fun H1 w1 => ?_⟩
    have p1 := SPost.same hR w1
    show if k = true then Yi X.K (zy fa fuel s1) D σ H1 else Yi X.K (zy fa fuel s2) D σ H1
    cases k with
    | true => rw [if_pos rfl] at e2 ⊢; exact ⟨W, ρ, y, p1.r, e2, fun W2 σ2 H2 p2 => FlOk.back p1 (q W2 σ2 H2 (p1.trans p2 hR))⟩
    | false => rw [if_neg Bool.false_ne_true] at e2 ⊢; exact ⟨W, ρ, y, p1.r, e2, fun W2 σ2 H2 p2 => FlOk.back p1 (q W2 σ2 H2 (p1.trans p2 hR))⟩
theorem QR (i : Nat) {apos cpos : Pos} (hN : X.N[i]? = some x) (hv : wz X.env.scope x) (he : IE X (zx fa) e ce) (hst : starEach [e] X.env = (false, eval e X.env) :: starEach [] X.env) (hd : (x == ("__debug__" : Str)) = false) (hcd : (x == ("__classdict__" : Str)) = false)
    (hs : swapsWith (.Call (.Attribute (.Name x p) "append" apos) [e] [] cpos) Option.none pos.line X.env = pure false := by rfl)
    (hbase : attributeBase (.Name x p) "append" X.env (eval (.Name x p) X.env) = eval (.Name x p) X.env := by rfl)
    (hline : (apos.endLine == cpos.line) = true := by rfl) :
    IS X (zB fa fuel (.app i ce)) (.Expr (.Call (.Attribute (.Name x p) "append" apos) [e] [] cpos) pos) :=
  .mk <| (JL (gZ PySem.F.plainAttrs_list PySem.F.slot_list_append PySem.F.type_list_append XQ (yC hN hv hd hcd) (vp he.v wR hst) hbase (by rw [hst]; rfl) hline hst zm) hs).imp fun D σ H zz3 => by
    obtain ⟨W, ρ, y, hR, hy, q⟩ := zz3
    simp only [zaD] at hy
    split at hy
    · rename_i x h
      split at hy
      · rename_i ds hc
        simp only [jo1] at hy
        obtain ⟨r, e1, d, e2, e3⟩ := hy
        split at e3
        · rename_i hl
          cases e3
          obtain ⟨a, o, h1, h2, h3, h4⟩ := hR.own i _ _ h hc
          cases h4 with
          | lst h4 =>
          rename_i xs
          refine ⟨_, h1, .inl ⟨rfl, xs, .of h3⟩, ?_⟩
          refine ⟨W, ρ, r, hR, e1, fun v H1 w1 f => ?_⟩
          refine ⟨a, xs, v, rfl, rfl, w1 _ _ h3, ?_, ?_⟩
          · rw [← h4.length, ← vz]; exact hl
          · exact q W σ _ (QP hR h hc h1 w1 (w1 _ _ h3) ⟨fun _ z => (nomatch z), fun _ _ z => (nomatch z)⟩ (.lst ((h4.ext (.same w1)).append (.cons (f.toD e2) .nil))))
        · cases e3
      · cases hy
    · cases hy
end
end L2.LW
set_option maxHeartbeats 4000000
namespace L2.LW
open PySem PySem.Spec PyProof.Rows
noncomputable def Yl (K : PySem.W.Frag) (J : It) (W : Addr → Prop) (H : Hp) (ds : List D) : Prop :=
  ∀ W' H', Ext W H W' H' → ∀ k : Nat, (k = ds.length → J.stop k H') ∧ ∀ d, ds[k]? = some d → J.go k H' ∧ ∀ x H'', J.yld k H' x H'' → H'' = H' ∧ Rep K W' H' d x
noncomputable def Ys (K : PySem.W.Frag) (J : It) (W : Addr → Prop) (H : Hp) (ds : List D) : Prop :=
  ∀ W' H', Same H H' → (∀ a, W' a → W a ∨ H a = Option.none) → ∀ k : Nat, (k = ds.length → J.stop k H') ∧ ∀ d, ds[k]? = some d → J.go k H' ∧ ∀ x H'', J.yld k H' x H'' → H'' = H' ∧ Rep K W' H' d x
theorem Ext.sameW {W W' : Addr → Prop} {H H' : Hp} (s : Same H H') (w : ∀ a, W' a → W a ∨ H a = Option.none) : Ext W H W' H' := ⟨fun a o h _ => s a o h, fun a xs h => s a _ h, fun a o u h => s a _ h, w⟩
section
variable {K : PySem.W.Frag} {W : Addr → Prop} {H : Hp} {a : Addr} {xs : List V} {ds : List D}
theorem QS {H' : Hp} {W' : Addr → Prop} (hq : SqL K H' a xs) (rp : Reps K W' H' ds xs) (k : Nat) :
    (k = ds.length → (vo K a).stop k H') ∧ ∀ d, ds[k]? = some d → (vo K a).go k H' ∧ ∀ x H'', (vo K a).yld k H' x H'' → H'' = H' ∧ Rep K W' H' d x := by
  refine ⟨fun e => ⟨xs, hq, by rw [← rp.length, e]; exact Nat.le_refl _⟩, fun d e => ?_⟩
  obtain ⟨v, e1, e2⟩ := rp.get e
  refine ⟨⟨xs, v, hq, e1⟩, fun x H'' ⟨z, y⟩ => ⟨z, ?_⟩⟩
  have := y xs hq
  rw [e1] at this
  cases this
  exact e2
theorem za6 {H' : Hp} {W' : Addr → Prop} (hq : SqT K H' a xs) (rp : Reps K W' H' ds xs) (k : Nat) :
    (k = ds.length → (ZL K a).stop k H') ∧ ∀ d, ds[k]? = some d → (ZL K a).go k H' ∧ ∀ x H'', (ZL K a).yld k H' x H'' → H'' = H' ∧ Rep K W' H' d x := by
  refine ⟨fun e => ⟨xs, hq, by rw [← rp.length, e]; exact Nat.le_refl _⟩, fun d e => ?_⟩
  obtain ⟨v, e1, e2⟩ := rp.get e
  refine ⟨⟨xs, v, hq, e1⟩, fun x H'' ⟨z, y⟩ => ⟨z, ?_⟩⟩
  have := y xs hq
  rw [e1] at this
  cases this
  exact e2
theorem Vt {H' : Hp} {W' : Addr → Prop} {lo : Int} {n : Nat} (k : Nat) :
    (k = ((List.range n).map fun (k : Nat) => D.int (lo + (k : Int))).length → (wO lo n).stop k H') ∧
      ∀ d, ((List.range n).map fun (k : Nat) => D.int (lo + (k : Int)))[k]? = some d → (wO lo n).go k H' ∧ ∀ x H'', (wO lo n).yld k H' x H'' → H'' = H' ∧ Rep K W' H' d x := by
  refine ⟨fun e => ?_, fun d e => ?_⟩
  · rw [List.length_map, List.length_range] at e
    exact Nat.le_of_eq e.symm
  · rw [List.getElem?_map, jo2] at e
    obtain ⟨j, e1, rfl⟩ := e
    obtain ⟨h1, h2⟩ := List.getElem?_eq_some_iff.mp e1
    rw [List.length_range] at h1
    rw [List.getElem_range] at h2
    subst h2
    exact ⟨h1, fun x H'' ⟨z, y⟩ => ⟨z, by rw [y]; exact .int _⟩⟩
theorem Vu {W' : Addr → Prop} {H' : Hp} (h : (¬ W a ∧ Rd H a (.lst xs)) ∨ Yg K a xs) (x : Ext W H W' H') : SqL K H' a xs := by
  rcases h with ⟨n, h | ⟨o, h⟩⟩ | h
  · exact .inl (.inl (x.keep _ _ h n))
  · exact .inl (.inr ⟨o, x.keep _ _ h n⟩)
  · exact .inr h
end
noncomputable def zhS (K : PySem.W.Frag) (tl : TE) : TI := fun σ H R => tl σ H fun x H1 => ∃ a, x = .ref a ∧ (((∃ xs, SqL K H1 a xs) ∧ R (vo K a) H1) ∨ ((∃ xs, SqT K H1 a xs) ∧ R (ZL K a) H1))
section
variable {X : Cx} {tg l : Expr}
theorem zhT {tl : TE} (hl : PE X l tl) : PI X tg l (zhS X.K tl) := by
  intro pins s σ H R I h
  refine zk (hl pins s σ H _ I h) fun v s1 ⟨x, H1, I1, r1, q1⟩ => ?_
  obtain ⟨a, e, q⟩ := q1
  subst e
  cases r1
  rcases q with ⟨⟨xs, hq⟩, q⟩ | ⟨⟨xs, hq⟩, q⟩
  · obtain ⟨its, rv, p, hz⟩ := I1.list hq
    refine wpAny_pyIter_list p.isList ?_
    refine ⟨s1.heap.objs.size, [s1.heap.objs.size], _, _, H1, rfl, I1.kept (t' := s1.toks) fun b o e => Heap.get?_push_of_some _ e, gx a _, ⟨_, Heap.get?_push_size _ rfl, rfl, rfl⟩, fun b hb => ?_, q⟩
    have e : b = s1.heap.objs.size := by simpa using hb
    subst e
    exact I1.fpOk (Nat.le_refl _) (I1.hok.fresh (Nat.le_refl _))
  · obtain ⟨its, rv, p, hz⟩ := I1.tuple hq
    refine wpAny_pyIter_tuple (show s1.heap.IsTuple a its.toArray from p) ?_
    refine ⟨s1.heap.objs.size, [s1.heap.objs.size], _, _, H1, rfl, I1.kept (t' := s1.toks) fun b o e => Heap.get?_push_of_some _ e, zff a _, ⟨_, Heap.get?_push_size _ rfl, rfl, rfl⟩, fun b hb => ?_, q⟩
    have e : b = s1.heap.objs.size := by simpa using hb
    subst e
    exact I1.fpOk (Nat.le_refl _) (I1.hok.fresh (Nat.le_refl _))
end
noncomputable def tI (K : PySem.W.Frag) (fn : Nat → List D → Option SV) (rng : Bool) (src : Es) : TI := fun σ H R0 => ∃ W ρ rs ds, R K W ρ σ H ∧ zM fn src ρ = some rs ∧ zZ rng rs = some ds ∧
  ∀ J H', Same H H' → Ys K J W H' ds → (rs.any SV.lent = false → Yl K J W H' ds) → R0 J H'
structure Src (X : Cx) (fn : Nat → List D → Option SV) (tg e : Expr) (rng : Bool) (src : Es) : Prop where
  h : PI X tg e (tI X.K fn rng src)
theorem _root_.L2.PI.imp {X : Cx} {tg l : Expr} {t t' : TI} (h : PI X tg l t) (i : ∀ σ H Q, t' σ H Q → t σ H Q) : PI X tg l t' := fun pins s σ H Q I q => h pins s σ H Q I (i σ H Q q)
section
variable {X : Cx} {fn : Nat → List D → Option SV} {fuel : Nat} {a b c e tg : Expr} {ca cb cc ce : E} {es : List Expr} {cs : Es} {pos p : Pos} {x : Str}
theorem Yu (he : IE X fn e ce) : Src X fn tg e false (.cons ce .nil) :=
  .mk <| (zhT he.v).imp fun σ H R0 zz3 => by
    obtain ⟨W, ρ, rs, ds, hR, h1, h2, q⟩ := zz3
    simp only [yI, yJ, jo1, jo2] at h1
    obtain ⟨r, e1, rs', e3, rfl⟩ := h1
    cases e3
    simp only [zZ] at h2
    refine ⟨W, ρ, r, hR, e1, fun v H1 s1 f => ?_⟩
    unfold jg at h2
    split at h2
    · rename_i l hd
      cases h2
      have hs := f.sees
      rw [hd] at hs
      obtain ⟨a, xs, rfl, hq, rp⟩ := hs.tupH
      refine ⟨a, rfl, .inr ⟨⟨xs, .of hq⟩, q _ H1 s1 (fun W' H' s w k => za6 (.of (s _ _ hq)) (rp.ext (.sameW s w)) k) fun _ W' H' x k => za6 (.of (x.tup _ _ hq)) (rp.ext x) k⟩⟩
    · rename_i l hd
      cases h2
      have hs := f.sees
      rw [hd] at hs
      obtain ⟨a, xs, rfl, hq, rp⟩ := hs.lst
      refine ⟨a, rfl, .inl ⟨⟨xs, hq⟩, q _ H1 s1 (fun W' H' s w k => QS (s.seq hq) (rp.ext (.sameW s w)) k) fun hl W' H' x k => ?_⟩⟩
      have hl' : r.lent = false := by simpa using hl
      cases f with
      | val h =>
        change _ = D.lst _ at hd
        subst hd
        cases h with
        | lst h r' => exact QS (Vu h x) (r'.ext x) k
      | lis h e r' =>
        change _ = D.lst _ at hd
        subst hd
        cases r' with
        | lst r' => exact QS (.of (x.keep _ _ e h)) (r'.ext x) k
      | see h e r' => simp [SV.lent] at hl'
    · cases h2
theorem Zi (hg : Gl X "range") (hm : X.mg "range" = Option.none) (ha : IA X fn [a] (.cons ca .nil)) (hs : starEach [a] X.env = (false, eval a X.env) :: starEach [] X.env) : Src X fn tg (.Call (.Name "range" p) [a] [] pos) true (.cons ca .nil) :=
  .mk <| (zfi hg hm ha.h hs).imp fun σ H R0 zz3 => by
    obtain ⟨W, ρ, rs, ds, hR, h1, h2, q⟩ := zz3
    refine ⟨W, ρ, rs, hR, h1, fun vs H1 s1 f => ?_⟩
    simp only [yI, yJ, jo1, jo2] at h1
    obtain ⟨r, e1, rs', e3, rfl⟩ := h1
    cases e3
    obtain ⟨v, rfl, g⟩ : ∃ v, vs = [v] ∧ Frz X.K W H1 r v := by
      cases f with
      | cons f t => cases t; exact ⟨_, rfl, f⟩
    clear f
    cases g with
    | val g =>
      cases g with
      | int n =>
        simp only [zZ] at h2
        split at h2
        · rename_i hn
          cases h2
          exact ⟨n, rfl, hn.1, hn.2, q _ H1 s1 (fun W' H' s w k => Vt k) fun _ W' H' x k => Vt k⟩
        · cases h2
      | _ => simp [zZ] at h2
    | _ => simp [zZ] at h2
theorem za7 (hg : Gl X "range") (hm : X.mg "range" = Option.none) (ha : IA X fn [a, b] (.cons ca (.cons cb .nil))) (hs : starEach [a, b] X.env = (false, eval a X.env) :: starEach [b] X.env) (hs2 : starEach [b] X.env = (false, eval b X.env) :: starEach [] X.env) :
    Src X fn tg (.Call (.Name "range" p) [a, b] [] pos) true (.cons ca (.cons cb .nil)) :=
  .mk <| (gA hg hm ha.h (by rw [hs, hs2]; rfl) hs2).imp fun σ H R0 zz3 => by
    obtain ⟨W, ρ, rs, ds, hR, h1, h2, q⟩ := zz3
    refine ⟨W, ρ, rs, hR, h1, fun vs H1 s1 f => ?_⟩
    simp only [yI, yJ, jo1, jo2] at h1
    obtain ⟨r, e1, rs', ⟨r2, e2, rs'', e3, rfl⟩, rfl⟩ := h1
    cases e3
    obtain ⟨v, v2, rfl, g, f2⟩ : ∃ v v2, vs = [v, v2] ∧ Frz X.K W H1 r v ∧ Frz X.K W H1 r2 v2 := by
      cases f with
      | cons f t => cases t with
        | cons f' t => cases t; exact ⟨_, _, rfl, f, f'⟩
    clear f
    cases g with
    | val g =>
      cases f2 with
      | val f2 =>
        cases g with
        | int n =>
          cases f2 with
          | int m =>
            simp only [zZ] at h2
            split at h2
            · rename_i hn
              cases h2
              exact ⟨n, m, rfl, ⟨hn.1.1, hn.1.2, hn.2.1, hn.2.2⟩, q _ H1 s1 (fun W' H' s w k => Vt k) fun _ W' H' x k => Vt k⟩
            · cases h2
          | _ => simp [zZ] at h2
        | _ => simp [zZ] at h2
      | _ => simp [zZ] at h2
    | _ => simp [zZ] at h2
theorem QT {α : Type} {l : List α} {k : Nat} {d : α} (h : l[k]? = some d) : l.drop k = d :: l.drop (k + 1) := by
  obtain ⟨h1, h2⟩ := List.getElem?_eq_some_iff.mp h
  rw [List.drop_eq_getElem_cons h1, h2]
theorem za8 {K : PySem.W.Frag} {J : It} {ds : List D} {i : Nat} {ex : LW.Env → Option (Fl × LW.Env)} {W : Addr → Prop} {ρ : LW.Env} {σ : St} {H : Hp} {x : Fl × LW.Env} {D0 : Ends} (hR : R K W ρ σ H) (hfr : ¬ xi ρ i) (hy : Yl K J W H ds)
    (hx : yH i ex ds ρ = some x) (q : ∀ W' σ' H', SPost K W ρ σ H W' x.2 σ' H' → FlOk K W ρ σ W' x.2 σ' H' D0 x.1) :
    ∃ Wv : Nat → Nat → St → Hp → Prop, (∃ m, Wv 0 m σ H) ∧ ∀ k m σ' H', Wv k m σ' H' →
      (J.stop k H' ∧ D0.nx σ' H') ∨ (J.go k H' ∧ ∃ N : St → Hp → Prop, (∀ σ2 H2, N σ2 H2 → ∃ m', m' < m ∧ Wv (k + 1) m' σ2 H2) ∧ ∀ v H2, J.yld k H' v H2 → wB i v σ' H2 fun σ2 H2 => Yi K ex { D0 with nx := N, ct := N, bk := D0.nx } σ2 H2) := by
  refine ⟨fun k m σ' H' => m = ds.length - k ∧ k ≤ ds.length ∧ ∃ W' ρ', SPost K W ρ σ H W' ρ' σ' H' ∧ yH i ex (ds.drop k) ρ' = some x, ⟨_, rfl, Nat.zero_le _, W, ρ, .same hR (.refl H), hx⟩, ?_⟩
  rintro k m σ' H' ⟨rfl, hk, W', ρ', p, hf⟩
  obtain ⟨hstop, hgo⟩ := hy W' H' (p.ext hR) k
  by_cases hlt : k < ds.length
  · have hd : ds[k]? = some ds[k] := by simp [hlt]
    obtain ⟨g1, g2⟩ := hgo _ hd
    rw [QT hd, yH, jo1] at hf
    obtain ⟨⟨fl, ρ2⟩, e1, e2⟩ := hf
    refine .inr ⟨g1, fun σ2 H2 => (ds.length - (k + 1)) = ds.length - (k + 1) ∧ k + 1 ≤ ds.length ∧ ∃ W' ρ', SPost K W ρ σ H W' ρ' σ2 H2 ∧ yH i ex (ds.drop (k + 1)) ρ' = some x, fun σ2 H2 h => ⟨_, by omega, h⟩, fun v H2 y => ?_⟩
    obtain ⟨rfl, rv⟩ := g2 v H2 y
    have p1 := za3 (i := i) p.r (.refl H2) rv fun z => hfr ((p.io i).1.mp z)
    have p01 := p.trans p1 hR
    refine ⟨W', _, (fl, ρ2), p1.r, e1, fun W3 σ3 H3 p3 => ?_⟩
    have p03 := p01.trans p3 hR
    cases fl with
    | nx => exact ⟨rfl, hlt, W3, ρ2, p03, e2⟩
    | ct => exact ⟨rfl, hlt, W3, ρ2, p03, e2⟩
    | br => cases e2; exact q W3 σ3 H3 p03
    | rt r => cases e2; exact fun v hv => q W3 σ3 H3 p03 v (hv.back p01)
  · have e : k = ds.length := by omega
    rw [List.drop_of_length_le (by omega), yH] at hf
    cases hf
    exact .inl ⟨hstop e, q W' σ' H' p⟩
variable {fa : Nat → List D → Option Ans} {sts : List Stmt} {ss : Ss}
theorem Yv (i : Nat) {rng : Bool} {src : Es} {px : Pos} (hp : PassesOwn (model X.prog X.w) X.A X.env X.xe) (hc : X.calm = true) (hN : X.N.Nodup) (hi : X.N[i]? = some x) (hx : wA X.env.scope x) (hs : Src X (zx fa) (.Name x px) e rng src) (hb : ISs X (zy fa fuel ss) sts)
    (hf : X.fn x = true ∨ X.env.scope.names.lookup x = some .local := by first | exact .inl rfl | exact .inr rfl | assumption) (hfo : ∀ x, foldedSetIterable e X.env x = pure x := by intro _; rfl) : IS X (zB fa fuel (.for_ i rng src ss)) (.For (.Name x px) e sts [] pos) :=
  .mk <| (jM hp hc hs.h (vn hN hi hx hf) hb.h hfo).imp fun D0 σ H zz3 => by
    obtain ⟨W, ρ, y, hR, hy, q⟩ := zz3
    simp only [zhk, jo1] at hy
    obtain ⟨rs, e1, e2⟩ := hy
    split at e2
    · cases e2
    · rename_i hl
      simp only [Bool.not_eq_true, Bool.or_eq_false_iff, Bool.not_eq_false'] at hl
      rw [jo1] at e2
      obtain ⟨ds, e3, e4⟩ := e2
      refine ⟨W, ρ, rs, ds, hR, e1, e3, fun J H1 s1 _ hyl => ?_⟩
      have p1 := SPost.same hR s1
      exact za8 p1.r (Yh hl.2) (hyl hl.1) e4 fun W' σ' H' p => FlOk.back p1 (q W' σ' H' (p1.trans p hR))
theorem zhU (hp : PassesOwn (model X.prog X.w) X.A X.env X.xe) (hc : IT X (zx fa) c cc) (hb : ISs X (zy fa fuel ss) sts) : IS X (zB fa fuel (.while_ cc ss)) (.While c sts [] pos) :=
  .mk <| (zfe hp hc.h hb.h).imp fun D0 σ H zz3 => by
    obtain ⟨W, ρ, y, hR, hy, q⟩ := zz3
    simp only [zhm] at hy
    refine ⟨fun m σ' H' => ∃ W' ρ', SPost X.K W ρ σ H W' ρ' σ' H' ∧ wo (zv (zx fa) cc) (zy fa fuel ss) m ρ' = some y, ⟨fuel, W, ρ, .same hR (.refl H), hy⟩, ?_⟩
    rintro m σ' H' ⟨W', ρ', p, hw⟩
    cases m with
    | zero => simp [wo] at hw
    | succ m =>
      rw [wo, jo1] at hw
      obtain ⟨k, e1, e2⟩ := hw
      refine ⟨W', ρ', k, p.r, e1, fun H1 s1 => ?_⟩
      have p1 := SPost.same p.r s1
      have p01 := p.trans p1 hR
      cases k with
      | false =>
        rw [if_neg Bool.false_ne_true] at e2
        cases e2
        exact XU (q W' σ' H1 p01)
      | true =>
        rw [if_pos rfl] at e2
        rw [jo1] at e2
        obtain ⟨⟨fl, ρ2⟩, e3, e4⟩ := e2
        refine XV ⟨fun σ2 H2 => ∃ W' ρ', SPost X.K W ρ σ H W' ρ' σ2 H2 ∧ wo (zv (zx fa) cc) (zy fa fuel ss) m ρ' = some y, fun σ2 H2 h => ⟨m, Nat.lt_succ_self m, h⟩, ?_⟩
        refine ⟨W', ρ', (fl, ρ2), p1.r, e3, fun W3 σ3 H3 p3 => ?_⟩
        have p03 := p01.trans p3 hR
        cases fl with
        | nx => exact ⟨W3, ρ2, p03, e4⟩
        | ct => exact ⟨W3, ρ2, p03, e4⟩
        | br => cases e4; exact q W3 σ3 H3 p03
        | rt r => cases e4; exact fun v hv => q W3 σ3 H3 p03 v (hv.back p01)
end
theorem za9 (io : List Nat) : ∀ (ds : List D) (k i : Nat), (xI io k ds)[i]? = (ds[i]?).map fun d => some (if io.contains (k + i) then SV.io d else .val d)
  | [], k, i => by simp [xI]
  | d :: r, k, 0 => by simp [xI]
  | d :: r, k, i + 1 => by
    rw [xI, List.getElem?_cons_succ, za9 io r (k + 1) i, List.getElem?_cons_succ]
    have : k + 1 + i = k + (i + 1) := by omega
    rw [this]
theorem Vv (io : List Nat) : ∀ (ds : List D) (k : Nat), (xI io k ds).length = ds.length
  | [], k => rfl
  | d :: r, k => by simp [xI, Vv io r (k + 1)]
theorem zhV {io : List Nat} {ds : List D} {n : Nat} {i : Nat} {x : SV} (h : (xI io 0 ds ++ List.replicate n Option.none)[i]? = some (some x)) :
    ∃ d, ds[i]? = some d ∧ x = if io.contains i then SV.io d else .val d := by
  by_cases hi : i < ds.length
  · rw [List.getElem?_append_left (by rw [Vv]; exact hi), za9, jo2] at h
    obtain ⟨d, e1, e2⟩ := h
    rw [Nat.zero_add] at e2
    exact ⟨d, e1, (Option.some.inj e2).symm⟩
  · rw [List.getElem?_append_right (by rw [Vv]; omega)] at h
    rw [List.getElem?_replicate] at h
    split at h <;> cases h
theorem Zj {N : List Str} {vs : List V} {i : Nat} {v : V} (h : vs[i]? = some v) : (xH N vs)[i]? = some (some v) := by
  have hi : i < vs.length := (List.getElem?_eq_some_iff.mp h).1
  unfold xH
  rw [List.getElem?_append_left (by simpa using hi), List.getElem?_map, h]
  rfl
theorem QU {K : PySem.W.Frag} {W W' : Addr → Prop} {H' : Hp} {ρ' : LW.Env} {σ' : St} {vs : List V} (hR : R K W' ρ' σ' H') (sub : ∀ b, W b → W' b) : ∀ {io : List Nat} {outs : List D}, xT ρ' io = some outs → (∀ k ∈ io, xi ρ' k → ∃ a, σ'[k]? = some (some (.ref a)) ∧ vs[k]? = some (.ref a)) → zaZ K W H' io vs outs
  | [], outs, e, _ => by simp only [xT] at e; cases e; exact .nil
  | k :: r, outs, e, hs => by
    simp only [xT] at e
    split at e
    · rename_i d h
      rw [jo2] at e
      obtain ⟨l, e1, rfl⟩ := e
      obtain ⟨a, h1, h2⟩ := hs k List.mem_cons_self ⟨d, h⟩
      obtain ⟨a', o, h3, _, h5, h6⟩ := hR.own k _ d h rfl
      rw [h1] at h3; cases h3
      exact .cons ⟨a, o, h2, h5, h6.less sub⟩ (QU hR sub e1 fun j hj => hs j (List.mem_cons_of_mem _ hj))
    · cases e
theorem yp {Pg : Program} {w : World} {K : PySem.W.Frag} {mg : Str → Option Value} {base : Heap} {x qual : Str} {st : Stmt} {f : Addr} {fd : FuncData} {N ps : List Str} {k n i : Nat} {P : Nat → Option Fn} {fuel : Nat} {F0 : Fn} {io : List Nat}
    (F : Fun K x qual st f fd) (S : FnScope N ps (zA st)) (hP : P i = some F0) (hnp : F0.np = ps.length) (hnl : F0.nl = N.length) (hio : F0.io = io) (hiop : io.all (fun k => decide (k < F0.np)) = true) (hxb : F0.xb = Option.none)
    (hbody : ∀ (cdv : Value) (A : Around) (outer : List PySem.Env) (s : Shared) (H : Hp) (E : XK), Room k (A.deeper (envOfC qual (zA st) s.heap.objs.size f cdv)) →
      ISs (vL xx Pg w K mg base N qual (zA st) f cdv A outer s H E).nox (zy (zR P fuel n) fuel F0.body) (vt st)) :
    FnOk Pg w K mg base xx (k + 1) f fd ps (vc K (zR P fuel (n + 1)) i io) := by
  subst hio
  have dec : ∀ {ds : List D} {r : Ans}, zR P fuel (n + 1) i ds = some r → ds.length = F0.np ∧ jl F0.io (zy (zR P fuel n) fuel F0.body (xI F0.io 0 ds ++ List.replicate (F0.nl - F0.np) Option.none)) = some r := fun {ds r} h => by
    rw [zR, hP] at h
    simp only [Option.bind_some, hxb] at h
    split at h
    · exact ⟨by assumption, h⟩
    · cases h
  refine F.ok S (fun vs H Q E h => ?_) (fun cdv A outer s H vs Q E hr h => ⟨_, (hbody cdv A outer s H E hr).h, ?_⟩)
  · obtain ⟨W, ds, r, outs, wf, rp, e, _⟩ := h
    rw [← rp.len, (dec e).1, hnp]
  · obtain ⟨W, ds, r, outs, wf, rp, e, q⟩ := h
    obtain ⟨hl, he⟩ := dec e
    have hlv := rp.len
    have hplN : ps.length ≤ N.length := by have := congrArg List.length S.pre; rw [List.length_take] at this; omega
    generalize hρ : xI F0.io 0 ds ++ List.replicate (F0.nl - F0.np) Option.none = ρ at he
    have at_ : ∀ {j : Nat} {x : SV}, ρ[j]? = some (some x) → ∃ d, ds[j]? = some d ∧ x = if F0.io.contains j then SV.io d else .val d := fun {j x} h => by rw [← hρ] at h; exact zhV h
    have own_io : ∀ a, xo ρ (xH N vs) a → QN F0.io vs a := fun a zz1 => by
      obtain ⟨j, x, d, h1, hc, h2⟩ := zz1
      obtain ⟨d', e1, e2⟩ := at_ h1
      split at e2
      · rename_i hj
        have hj : j ∈ F0.io := by simpa using hj
        obtain ⟨b, o, h3, _⟩ := rp.obj j d' e1 hj
        rw [Zj h3] at h2
        cases h2
        exact ⟨j, hj, h3⟩
      · subst e2; cases hc
    have hR : R K W ρ (xH N vs) H := by
      refine ⟨fun j d h => ?_, fun j d h => ?_, fun j x d h hc => ?_, fun j k x y d e a h1 h2 c1 c2 h3 h4 => ?_, wf, ?_⟩
      · obtain ⟨d', e1, e2⟩ := at_ h
        split at e2
        · cases e2
        · rename_i hj
          cases e2
          obtain ⟨v, h1, h2⟩ := rp.val j d e1 (by simpa using hj)
          exact ⟨v, Zj h1, h2⟩
      · obtain ⟨d', e1, e2⟩ := at_ h
        split at e2 <;> cases e2
      · obtain ⟨d', e1, e2⟩ := at_ h
        split at e2
        · rename_i hj
          subst e2; cases hc
          obtain ⟨b, o, h3, h4, h5, h6⟩ := rp.obj j d e1 (by simpa using hj)
          exact ⟨b, o, Zj h3, h4, h5, h6⟩
        · subst e2; cases hc
      · obtain ⟨d1, e1, e2⟩ := at_ h1
        obtain ⟨d2, e3, e4⟩ := at_ h2
        split at e2
        · rename_i hj
          split at e4
          · rename_i hk
            have hj : j ∈ F0.io := by simpa using hj
            have hk : k ∈ F0.io := by simpa using hk
            obtain ⟨b, o, z1, _⟩ := rp.obj j d1 e1 hj
            obtain ⟨b', o', z2, _⟩ := rp.obj k d2 e3 hk
            rw [Zj z1] at h3; cases h3
            rw [Zj z2] at h4; cases h4
            exact rp.inj j k _ hj hk z1 z2
          · subst e4; cases c2
        · subst e2; cases c1
      · rw [← hρ]
        unfold xH
        rw [List.length_append, List.length_append, Vv, List.length_map, List.length_replicate, List.length_replicate]
        omega
    cases hx : zy (zR P fuel n) fuel F0.body ρ with
    | none => rw [hx] at he; cases he
    | some y =>
      rw [hx] at he
      obtain ⟨fl, ρ'⟩ := y
      refine ⟨W, ρ, (fl, ρ'), hR, hx, fun W' σ' H' p => ?_⟩
      have kp : ∀ a o, H a = some o → ¬ QN F0.io vs a → H' a = some o := fun b o h n => p.keep b o h fun z => n (own_io b z)
      have io_at : ∀ k ∈ F0.io, xi ρ' k → ∃ a, σ'[k]? = some (some (.ref a)) ∧ vs[k]? = some (.ref a) := fun j hj z => by
        have z0 := (p.io j).1.mp z
        obtain ⟨d0, z1⟩ := z0
        obtain ⟨d', e1, e2⟩ := at_ z1
        obtain ⟨b, o, h3, _⟩ := rp.obj j d' e1 hj
        exact ⟨b, by rw [(p.io j).2 ⟨d0, z1⟩, Zj h3], h3⟩
      have sub : ∀ b, W b → W' b := fun b w => by
        by_cases hb : xo ρ (xH N vs) b
        · obtain ⟨j, x, d, h1, hc, h2⟩ := hb
          obtain ⟨d', e1, e2⟩ := at_ h1
          split at e2
          · subst e2
            obtain ⟨d2, z⟩ := (p.io j).1.mpr ⟨d', h1⟩
            obtain ⟨a', o, h3, h4, _⟩ := p.r.own j _ d2 z rfl
            rw [(p.io j).2 ⟨d', h1⟩, h2] at h3
            cases h3
            exact h4
          · subst e2; cases hc
        · exact (p.wout b w hb).1
      cases fl with
      | br => cases he
      | ct => cases he
      | nx =>
        simp only [jl, jo2] at he
        obtain ⟨l, e1, e2⟩ := he
        cases e2
        exact q _ H' kp (QU p.r sub e1 io_at) (.val .non)
      | rt r' =>
        simp only [jl, jo2] at he
        obtain ⟨l, e1, e2⟩ := he
        cases e2
        intro v hv
        have ho := QU p.r sub e1 io_at
        cases hv with
        | val h => exact q v H' kp ho (.val (h.less sub))
        | new h nn n' eL rr =>
          have ha := (p.win _ h).resolve_left fun w => nn ⟨w, fun zz0 => by
            obtain ⟨j, x, d, h1, hc, h2⟩ := zz0
            obtain ⟨d', e1, e2⟩ := at_ h1
            split at e2
            · subst e2; exact n' ⟨j, ⟨d', h1⟩, h2⟩
            · subst e2; cases hc⟩
          refine q _ H' kp ho (.new ha eL (rr.less fun b w => ?_))
          rcases w with w | rfl
          · exact sub b w
          · exact h
end L2.LW
set_option maxHeartbeats 4000000
namespace L2.LW
open PySem PySem.Spec PyProof.Rows
noncomputable def xq (env : PySem.Env) : List (Str × NameKind) → List (Str × Addr) → List (Str × Addr)
  | [], acc => acc
  | (n, k) :: r, acc => if k == .free then xq env r ((n, (env.cells.lookup n).getD 0) :: acc) else xq env r acc
theorem zba (env : PySem.Env) : ∀ (names : List (Str × NameKind)) (acc : List (Str × Addr)), (∀ y ∈ names, y.2 = .free → (env.cells.lookup y.1).isSome = true) →
    (forIn names acc fun (x : Str × NameKind) (cs : List (Str × Addr)) => (if (x.2 == NameKind.free) = true then (do let c ← cellOf env x.1; pure (ForInStep.yield ((x.1, c) :: cs)) : Sem (ForInStep (List (Str × Addr)))) else pure (ForInStep.yield cs))) = (pure (xq env names acc) : Sem (List (Str × Addr)))
  | [], acc, _ => rfl
  | (n, k) :: r, acc, h => by
    have ih := fun acc => zba env r acc fun y hy => h y (List.mem_cons_of_mem _ hy)
    rw [List.forIn_cons]
    by_cases hk : (k == NameKind.free) = true
    · have hs := h (n, k) List.mem_cons_self (by simpa using hk)
      obtain ⟨c, hc⟩ := Option.isSome_iff_exists.mp hs
      have hc : env.cells.lookup n = some c := hc
      simp only [hk, if_true, cellOf, hc, xq, Option.getD_some]
      show (forIn r ((n, c) :: acc) _ : Sem _) = _
      exact ih _
    · simp only [hk, if_false, xq]
      show (forIn r acc _ : Sem _) = _
      exact ih _
theorem zbb {scope : Scope} {env : PySem.Env} (h : ∀ y ∈ scope.names, y.2 = .free → (env.cells.lookup y.1).isSome = true) : closureFor scope env = pure (xq env scope.names []) := by
  have key : closureFor scope env = ((forIn scope.names ([] : List (Str × Addr)) fun (x : Str × NameKind) (cs : List (Str × Addr)) =>
    (if (x.2 == NameKind.free) = true then (do let c ← cellOf env x.1; pure (ForInStep.yield ((x.1, c) :: cs)) : Sem (ForInStep (List (Str × Addr)))) else pure (ForInStep.yield cs))) >>= fun cs => pure cs) := rfl
  rw [key, zba env scope.names [] h]
  rfl
theorem Vw {env : PySem.Env} {y : Str} {c : Addr} : ∀ {names : List (Str × NameKind)} {acc : List (Str × Addr)}, (∀ z ∈ names, z.2 = .free → (env.cells.lookup z.1).isSome = true) → (xq env names acc).lookup y = some c →
    acc.lookup y = some c ∨ env.cells.lookup y = some c
  | [], _, _, e => .inl e
  | (n, k) :: r, acc, h, e => by
    unfold xq at e
    split at e
    · rename_i hk
      rcases Vw (fun z hz => h z (List.mem_cons_of_mem _ hz)) e with q | q
      · rw [List.lookup_cons] at q
        split at q
        · rename_i hy
          have hy : y = n := by simpa using hy
          subst hy
          obtain ⟨c', hc⟩ := Option.isSome_iff_exists.mp (h (y, k) List.mem_cons_self (by simpa using hk))
          have hc : env.cells.lookup y = some c' := hc
          rw [hc] at q
          cases q
          exact .inr hc
        · exact .inl q
      · exact .inr q
    · exact Vw (fun z hz => h z (List.mem_cons_of_mem _ hz)) e
theorem QV {env : PySem.Env} {y : Str} : ∀ {names : List (Str × NameKind)} {acc : List (Str × Addr)}, ((acc.lookup y).isSome = true ∨ (y, NameKind.free) ∈ names) → ((xq env names acc).lookup y).isSome = true
  | [], acc, h => by
    rcases h with h | h
    · exact h
    · cases h
  | (n, k) :: r, acc, h => by
    unfold xq
    split
    · rename_i hk
      refine QV ?_
      by_cases e : y = n
      · subst e; exact .inl (by simp)
      · have hb : (y == n) = false := by simpa using e
        rcases h with h | h
        · exact .inl (by rw [List.lookup_cons, hb]; exact h)
        · rcases List.mem_cons.mp h with z | z
          · cases z; exact absurd rfl e
          · exact .inr z
    · rename_i hk
      refine QV ?_
      rcases h with h | h
      · exact .inl h
      · rcases List.mem_cons.mp h with z | z
        · cases z; exact absurd rfl hk
        · exact .inr z
noncomputable def jp (x : Str) : Str := x ++ (" " : Str)
noncomputable def xz (x : Str) (N : List Str) : List Str := N.map fun y => if y = x then jp x else y
noncomputable def vd (scope : Scope) (x : Str) (c : Addr) (cl : List (Str × Addr)) : List (Str × Addr) := if scope.names.lookup x = some .cell then (x, c) :: cl else cl
noncomputable def zW (X : Cx) (scope : Scope) (x : Str) (s₃ : Shared) (H₃ : Hp) (fp : List Addr) (pins : List (Addr × Obj)) : Cx :=
  { X with N := x :: xz x X.N, s₀ := s₃, H₀ := H₃, env := compEnvC scope (vd scope x (s₃.heap.objs.size + 1) (xq X.env scope.names [])) s₃.heap.objs.size X.env, outer := X.stack, stack := X.stack, ex := fp, fn := fun y => decide (y = x) && decide (scope.names.lookup x = some .cell), pn := X.pn ++ pins, xe := fun _ _ => False }
structure CompSc (X : Cx) (scope : Scope) (x : Str) : Prop where
  kind : scope.kind = .function
  loc : scope.names.lookup x = some .local ∨ scope.names.lookup x = some .cell
  names : ∀ y ∈ scope.names, y.2 = .local → scope.names.lookup y.1 = some .local
  cell1 : scope.names.filter (fun y => y.2 == .cell) = if scope.names.lookup x = some .cell then [(x, .cell)] else []
  free : ∀ y ∈ scope.names, y.2 = .free → X.env.scope.names.lookup y.1 = some .cell ∨ X.env.scope.names.lookup y.1 = some .free
  own : ∀ y ∈ X.N, scope.names.lookup y = some .local → y = x
  none : scope.names.lookup (jp x) = Option.none
  nd : (x :: xz x X.N).Nodup
theorem Vx {y : Str} {k : NameKind} : ∀ {l : List (Str × NameKind)}, l.lookup y = some k → (y, k) ∈ l
  | [], h => by cases h
  | (n, j) :: r, h => by
    rw [List.lookup_cons] at h
    split at h
    · rename_i e
      have e : y = n := by simpa using e
      cases h; subst e
      exact List.mem_cons_self
    · exact List.mem_cons_of_mem _ (Vx h)
theorem Zk {env : PySem.Env} {y : Str} {k : NameKind} : ∀ {names : List (Str × NameKind)},
    (names.map fun (z : Str × NameKind) => match z with | (n, k) => if (k == NameKind.free && env.scope.kind == .function && env.kindOf n == some .cell) = true then (n, NameKind.cell) else (n, k)).lookup y = some k →
    names.lookup y = some k ∨ (k = .cell ∧ names.lookup y = some .free)
  | [], h => by cases h
  | (n, j) :: r, h => by
    rw [List.map_cons, List.lookup_cons] at h
    rw [List.lookup_cons]
    by_cases hc : (j == NameKind.free && env.scope.kind == .function && env.kindOf n == some .cell) = true
    · simp only [hc, if_true] at h
      cases e : y == n with
      | true =>
        rw [e] at h
        cases h
        have hj : j = .free := by
          simp only [Bool.and_eq_true] at hc
          simpa using hc.1.1
        exact .inr ⟨rfl, by rw [hj]⟩
      | false => rw [e] at h; exact Zk h
    · simp only [hc, Bool.false_eq_true, if_false] at h
      cases e : y == n with
      | true => rw [e] at h; exact .inl h
      | false => rw [e] at h; exact Zk h
section
variable {X : Cx} {scope : Scope} {x : Str} {s₃ : Shared} {H₃ : Hp} {fp : List Addr} {pins : List (Addr × Obj)} {σ : St}
theorem CompSc.onlyC (S : CompSc X scope x) {y : Str} (h : scope.names.lookup y = some .cell) : y = x ∧ scope.names.lookup x = some .cell := by
  have hm : (y, NameKind.cell) ∈ scope.names.filter (fun y => y.2 == .cell) := List.mem_filter.mpr ⟨Vx h, rfl⟩
  rw [S.cell1] at hm
  split at hm
  · simp at hm; subst hm; exact ⟨rfl, h⟩
  · cases hm
theorem zbc {x : Str} : ∀ (names : List (Str × NameKind)) (a : Nat) (acc : List (Str × Addr)) (h : Heap), names.filter (fun y => y.2 == .cell) = [(x, .cell)] → cellsFrom a names acc = (x, a) :: acc ∧ pushCells h names = h.push { cls := .type "cell", data := .cell Option.none }
  | [], _, _, _, e => by cases e
  | (n, k) :: r, a, acc, h, e => by
    have none_ : ∀ (names : List (Str × NameKind)) (a : Nat) (acc : List (Str × Addr)) (h : Heap), names.filter (fun y => y.2 == .cell) = [] → cellsFrom a names acc = acc ∧ pushCells h names = h := by
      intro names
      induction names with
      | nil => intro a acc h _; exact ⟨rfl, rfl⟩
      | cons y r ih =>
        intro a acc h e
        obtain ⟨n, k⟩ := y
        rw [List.filter_cons] at e
        split at e
        · cases e
        · rename_i hk
          have hk : (k == NameKind.cell) = false := by simpa using hk
          unfold cellsFrom pushCells
          rw [hk]
          exact ih a acc h e
    rw [List.filter_cons] at e
    split at e
    · rename_i hk
      injection e with e1 e2
      cases e1
      unfold cellsFrom pushCells
      simp only [beq_self_eq_true, if_true]
      exact none_ r _ _ _ e2
    · rename_i hk
      have hk : (k == NameKind.cell) = false := by simpa using hk
      unfold cellsFrom pushCells
      rw [hk]
      exact zbc r a acc h e
theorem zbd : ∀ (names : List (Str × NameKind)) (a : Nat) (acc : List (Str × Addr)) (h : Heap), names.filter (fun y => y.2 == .cell) = [] → cellsFrom a names acc = acc ∧ pushCells h names = h
  | [], _, _, _, _ => ⟨rfl, rfl⟩
  | (n, k) :: r, a, acc, h, e => by
    rw [List.filter_cons] at e
    split at e
    · cases e
    · rename_i hk
      have hk : (k == NameKind.cell) = false := by simpa using hk
      unfold cellsFrom pushCells
      rw [hk]
      exact zbd r a acc h e
theorem zbe {M : Model} {A : Around} {E : Value → Shared → Prop} {s : Shared} {globals : Addr} {cl : List (Str × Addr)} {qual : Str} {env : PySem.Env} {Q : PySem.Env → Shared → Prop} (S : CompSc X scope x)
    (h : ∀ h₁, h₁.Ns s.heap.objs.size (fun _ => Option.none) → (∀ b o, s.heap.get? b = some o → h₁.get? b = some o) → (scope.names.lookup x = some .cell → h₁.IsCell (s.heap.objs.size + 1) Option.none) →
      Q (newEnv scope s.heap.objs.size globals (vd scope x (s.heap.objs.size + 1) cl) qual Option.none .none (some env) builtinsNs) { s with heap := h₁ }) :
    wpAny M A (newFunctionEnv scope globals cl [] qual Option.none .none (some env)) Q E s := by
  simp only [newFunctionEnv, Option.isSome_some, if_true]
  refine wpAny_bind (wpAny_alloc ?_)
  refine wpAny_bind (wpAny_layCells _ (fun name kind cells => by cases hkc : kind == NameKind.cell <;> simp [hkc]) _ _ _ _ ?_)
  rw [List.forIn_nil]
  refine wpAny_bind (wpAny_pure (wpAny_pure ?_))
  rw [show ({ s with heap := s.heap.push { cls := .type "dict", data := .dict #[] } } : Shared).heap.objs.size = s.heap.objs.size + 1 from Heap.size_push ..]
  have hc := S.cell1
  by_cases hx : scope.names.lookup x = some .cell
  · rw [if_pos hx] at hc
    obtain ⟨e1, e2⟩ := zbc (x := x) scope.names (s.heap.objs.size + 1) cl (s.heap.push { cls := .type "dict", data := .dict #[] }) hc
    have h' := h (pushCells (s.heap.push { cls := .type "dict", data := .dict #[] }) scope.names) ((Heap.Ns.new s.heap (.type "dict")).keeps (pushCells_keeps _ _)) (fun b o e => pushCells_keeps _ _ b o (Heap.get?_push_of_some _ e)) (fun _ => by
      rw [e2]
      have : (s.heap.push { cls := .type "dict", data := .dict #[] }).objs.size = s.heap.objs.size + 1 := Heap.size_push ..
      rw [← this]
      exact ⟨_, Heap.get?_push_size _ rfl, rfl⟩)
    rw [e1]
    unfold vd at h'
    rw [if_pos hx] at h'
    exact h'
  · rw [if_neg hx] at hc
    obtain ⟨e1, e2⟩ := zbd scope.names (s.heap.objs.size + 1) cl (s.heap.push { cls := .type "dict", data := .dict #[] }) hc
    have h' := h (pushCells (s.heap.push { cls := .type "dict", data := .dict #[] }) scope.names) ((Heap.Ns.new s.heap (.type "dict")).keeps (pushCells_keeps _ _)) (fun b o e => pushCells_keeps _ _ b o (Heap.get?_push_of_some _ e)) (fun z => absurd z hx)
    rw [e1]
    unfold vd at h'
    rw [if_neg hx] at h'
    exact h'
theorem CompSc.cells (S : CompSc X scope x) (ok : X.Ok) : ∀ y ∈ scope.names, y.2 = .free → (X.env.cells.lookup y.1).isSome = true := fun y hy hk => by
  obtain ⟨c, hc⟩ := ok.has y.1 (S.free y hy hk)
  rw [hc]; rfl
theorem CompSc.look (S : CompSc X scope x) (ok : X.Ok) {y : Str} {c : Addr} (h : (zW X scope x s₃ H₃ fp pins).env.cells.lookup y = some c) :
    (y = x ∧ scope.names.lookup x = some .cell ∧ c = s₃.heap.objs.size + 1) ∨ ((y ≠ x ∨ scope.names.lookup x ≠ some .cell) ∧ X.env.cells.lookup y = some c) := by
  have h : (vd scope x (s₃.heap.objs.size + 1) (xq X.env scope.names [])).lookup y = some c := h
  have old : (xq X.env scope.names []).lookup y = some c → X.env.cells.lookup y = some c := fun h => by
    rcases Vw (S.cells ok) h with q | q
    · cases q
    · exact q
  unfold vd at h
  split at h
  · rename_i hc
    rw [List.lookup_cons] at h
    split at h
    · rename_i e
      cases h
      exact .inl ⟨by simpa using e, hc, rfl⟩
    · rename_i e
      exact .inr ⟨.inl (by simpa using e), old h⟩
  · rename_i hc
    exact .inr ⟨.inr hc, old h⟩
theorem CompSc.kindOf (S : CompSc X scope x) {y : Str} (h : (zW X scope x s₃ H₃ fp pins).env.kindOf y = some .cell ∨ (zW X scope x s₃ H₃ fp pins).env.kindOf y = some .free) : scope.names.lookup y = some .free ∨ (y = x ∧ scope.names.lookup x = some .cell) := by
  rcases h with h | h
  · rcases Zk (show _ = _ from h) with q | ⟨_, q⟩
    · exact .inr (S.onlyC q)
    · exact .inl q
  · rcases Zk (show _ = _ from h) with q | ⟨z, q⟩
    · exact .inl q
    · cases z
theorem CompSc.has (S : CompSc X scope x) {y : Str} (h : scope.names.lookup y = some .free) : ∃ c, (zW X scope x s₃ H₃ fp pins).env.cells.lookup y = some c ∧ (xq X.env scope.names []).lookup y = some c := by
  obtain ⟨c, hc⟩ := Option.isSome_iff_exists.mp (QV (env := X.env) (names := scope.names) (acc := []) (y := y) (.inr (Vx h)))
  refine ⟨c, ?_, hc⟩
  show (vd scope x (s₃.heap.objs.size + 1) (xq X.env scope.names [])).lookup y = some c
  unfold vd
  split
  · rename_i hx
    have : (y == x) = false := by
      cases e : y == x with
      | false => rfl
      | true =>
        have e : y = x := by simpa using e
        subst e; rw [h] at hx; cases hx
    rw [List.lookup_cons, this]
    exact hc
  · exact hc
theorem QW {env : PySem.Env} {y : Str} : ∀ {names : List (Str × NameKind)}, names.lookup y = some .cell →
    (names.map fun (z : Str × NameKind) => match z with | (n, k) => if (k == NameKind.free && env.scope.kind == .function && env.kindOf n == some .cell) = true then (n, NameKind.cell) else (n, k)).lookup y = some .cell
  | [], h => by cases h
  | (n, j) :: r, h => by
    rw [List.lookup_cons] at h
    rw [List.map_cons, List.lookup_cons]
    by_cases hc : (j == NameKind.free && env.scope.kind == .function && env.kindOf n == some .cell) = true
    · simp only [hc, if_true]
      cases e : y == n with
      | true => rfl
      | false => rw [e] at h; exact QW h
    · simp only [hc, Bool.false_eq_true, if_false]
      cases e : y == n with
      | true => rw [e] at h; exact h
      | false => rw [e] at h; exact QW h
theorem CompSc.locX (S : CompSc X scope x) : wA (zW X scope x s₃ H₃ fp pins).env.scope x := by
  rcases S.loc with h | h
  · exact .inl (lookup_relabel_local h)
  · exact .inr (QW h)
theorem CompSc.fnX (S : CompSc X scope x) : (zW X scope x s₃ H₃ fp pins).fn x = true ∨ (zW X scope x s₃ H₃ fp pins).env.scope.names.lookup x = some .local := by
  rcases S.loc with h | h
  · exact .inr (lookup_relabel_local h)
  · left
    show (decide (x = x) && decide (scope.names.lookup x = some .cell)) = true
    simp [h]
theorem zbf (S : CompSc X scope x) (I : Inv X pins σ H₃ s₃) (hf : ∀ b ∈ fp, xa X pins H₃ b) (hlt : ∀ b ∈ fp, b < s₃.heap.objs.size) : (zW X scope x s₃ H₃ fp pins).Ok where
  mod := I.ok.mod
  kind := S.kind
  glob := I.ok.glob
  blt := I.ok.blt
  above := Nat.le_refl _
  inj := fun y z c h1 h2 => by
    have old : ∀ {y : Str} {c : Addr}, X.env.cells.lookup y = some c → c < s₃.heap.objs.size := fun {y c} h => by
      obtain ⟨v, o, ho, _⟩ := I.cell y c h
      exact Heap.lt_size ho
    rcases S.look I.ok h1 with ⟨e1, _, e2⟩ | ⟨_, q1⟩
    · rcases S.look I.ok h2 with ⟨e3, _, e4⟩ | ⟨_, q2⟩
      · rw [e1, e3]
      · have := old q2; rw [e2] at this; exact absurd this (Nat.not_lt.mpr (Nat.le_succ _))
    · rcases S.look I.ok h2 with ⟨e3, _, e4⟩ | ⟨_, q2⟩
      · have := old q1; rw [e4] at this; exact absurd this (Nat.not_lt.mpr (Nat.le_succ _))
      · exact I.ok.inj y z c q1 q2
  has := fun y h => by
    rcases S.kindOf h with q | ⟨q1, q2⟩
    · obtain ⟨c, hc, _⟩ := S.has (s₃ := s₃) (H₃ := H₃) (fp := fp) (pins := pins) q
      exact ⟨c, hc⟩
    · refine ⟨s₃.heap.objs.size + 1, ?_⟩
      show (vd scope x (s₃.heap.objs.size + 1) (xq X.env scope.names [])).lookup y = _
      unfold vd
      rw [if_pos q2, q1, List.lookup_cons, beq_self_eq_true]
  cab := fun y c h hc => by
    have h : (decide (y = x) && decide (scope.names.lookup x = some .cell)) = true := h
    rw [Bool.and_eq_true, decide_eq_true_iff, decide_eq_true_iff] at h
    rcases S.look I.ok hc with ⟨_, _, e⟩ | ⟨q, _⟩
    · rw [e]; exact Nat.le_succ _
    · exact absurd h (fun z => q.elim (fun w => w z.1) fun w => w z.2)
  hd := I.ok.hd
  frames := I.ok.frames
  stk := .inl rfl
  exf := fun b hb => ⟨Nat.ne_of_lt (hlt b hb), fun y c h => by
    rcases S.look I.ok h with ⟨_, _, e⟩ | ⟨_, q⟩
    · rw [e]; exact fun z => absurd (z ▸ hlt b hb) (Nat.not_lt.mpr (Nat.le_succ _))
    · exact (hf b hb).2.2.2.2.1 y c q⟩
  bs := I.bs
  bsz := Nat.le_trans I.ok.bsz I.sz
  noex := fun b o e hb => by
    obtain ⟨_, _, _, h, _⟩ := hf b hb
    rcases h with h | h
    · exact I.ok.noex b o e h
    · exact absurd (Nat.lt_of_lt_of_le (Heap.lt_size e) (Nat.le_trans I.ok.bsz h)) (Nat.lt_irrefl _)
  exfs := fun b hb hz => by
    obtain ⟨_, h1, h2, _⟩ := hf b hb
    rcases List.mem_cons.mp (I.stkSub b hz) with e | e
    · exact h1 e
    · exact h2 e
  funs := I.stack
  frf := I.stkFree
theorem zhW {N : List Str} {i : Nat} {y : Str} (h : (xz x N)[i]? = some y) : ∃ z, N[i]? = some z ∧ ((z = x ∧ y = jp x) ∨ (z ≠ x ∧ y = z)) := by
  unfold xz at h
  rw [List.getElem?_map, jo2] at h
  obtain ⟨z, e1, e2⟩ := h
  refine ⟨z, e1, ?_⟩
  split at e2
  · exact .inl ⟨by assumption, e2.symm⟩
  · exact .inr ⟨by assumption, e2.symm⟩
theorem zbg {h₁ : Heap} {tk : Nat} (S : CompSc X scope x) (I : Inv X pins σ H₃ s₃) (hf : ∀ b ∈ fp, xa X pins H₃ b) (hlt : ∀ b ∈ fp, b < s₃.heap.objs.size) (hns : h₁.Ns s₃.heap.objs.size fun _ => Option.none)
    (hk : ∀ b o, s₃.heap.get? b = some o → h₁.get? b = some o) (ZJ : scope.names.lookup x = some .cell → h₁.IsCell (s₃.heap.objs.size + 1) Option.none) : Inv (zW X scope x s₃ H₃ fp pins) [] (Option.none :: σ) H₃ { s₃ with heap := h₁, toks := tk } := by
  refine ⟨zbf S I hf hlt, rfl, I.bare, Un.kept hk, ⟨_, hns, fun i y v h1 h2 h3 => ?_⟩, fun y c h => ?_, I.hok.fresh (Nat.le_refl _), fun y c h => ?_, fun p hp => ?_, I.hok.kept hk, ?_⟩
  · cases i with
    | zero => cases h2
    | succ i =>
      have h1 : (xz x X.N)[i]? = some y := h1
      have h2 : σ[i]? = some (some v) := h2
      obtain ⟨z, e1, e2⟩ := zhW h1
      have vis : scope.names.lookup y = some .local ∨ scope.names.lookup y = some .free := by
        rcases h3 with q | q
        · rcases Zk (show _ = _ from q) with q | ⟨z, q⟩
          · exact .inl q
          · cases z
        · rcases S.kindOf q with q | ⟨q, _⟩
          · exact .inr q
          · exfalso
            rcases e2 with ⟨_, z⟩ | ⟨ne, z⟩
            · have hx : x = jp x := q.symm.trans z
              have hn := S.none
              rw [← hx] at hn
              rcases S.loc with w | w <;> rw [hn] at w <;> cases w
            · exact ne (z.symm.trans q)
      rcases e2 with ⟨rfl, rfl⟩ | ⟨ne, rfl⟩
      · rw [S.none] at vis
        rcases vis with q | q <;> cases q
      · rcases vis with q | q
        · exact absurd (S.own y (List.mem_of_getElem? e1) q) ne
        · have kx := S.free _ (Vx q) rfl
          obtain ⟨m, _, hl⟩ := I.loc
          obtain ⟨u, ru, l⟩ := hl i y v e1 h2 (.inr kx)
          refine ⟨u, ru, .inr ⟨?_, ?_⟩⟩
          · rcases h3 with q' | q'
            · rcases Zk (show _ = _ from q') with q' | ⟨z, _⟩
              · rw [q] at q'; cases q'
              · cases z
            · exact q'
          · rcases l with ⟨k, _⟩ | ⟨_, c, hc, hcell'⟩
            · have k : X.env.scope.names.lookup y = some .local := k
              rcases kx with z | z
              · have z : X.env.scope.names.lookup y = some .cell := z
                rw [z] at k; cases k
              · have z : X.env.scope.names.lookup y = some .free := z
                rw [z] at k; cases k
            · obtain ⟨c', hc', hc2⟩ := S.has (s₃ := s₃) (H₃ := H₃) (fp := fp) (pins := pins) q
              have e : X.env.cells.lookup y = some c' := by
                rcases Vw (S.cells I.ok) hc2 with q | q
                · cases q
                · exact q
              rw [hc] at e
              cases e
              obtain ⟨o, ho, hd⟩ := hcell'
              exact ⟨c, hc', o, hk _ _ ho, hd⟩
  · rcases S.look I.ok h with ⟨_, q, e⟩ | ⟨_, q⟩
    · rw [e]; exact ⟨Option.none, ZJ q⟩
    · obtain ⟨v, o, ho, hd⟩ := I.cell y c q
      exact ⟨v, o, hk _ _ ho, hd⟩
  · rcases S.look I.ok h with ⟨_, q, e⟩ | ⟨_, q⟩
    · rw [e]; exact I.hok.fresh (Nat.le_succ _)
    · exact I.freeC y c q
  · have hp : p ∈ X.pn ++ pins := by simpa [zW] using hp
    obtain ⟨e, n, ne, nf, d⟩ := I.pin p hp
    refine ⟨hk _ _ e, n, Nat.ne_of_lt (Heap.lt_size e), fun z => ?_, d⟩
    rcases List.mem_cons.mp (I.stkSub _ z) with q | q
    · exact ne q
    · exact nf q
  · show σ.length + 1 = (x :: xz x X.N).length
    unfold xz
    rw [List.length_cons, List.length_map, I.len]
theorem zbh {s' : Shared} {h' : Heap} {H' : Hp} {σ' : St} {ps : List (Addr × Obj)} (I : Inv X pins σ H₃ s₃) (hf : ∀ b ∈ fp, xa X pins H₃ b) (J : Inv (zW X scope x s₃ H₃ fp pins) ps σ' H' s') (hs : Heap.SameBut s₃.heap.objs.size s'.heap h') :
    Inv X pins σ H' { s' with heap := h' } := by
  have ne : ∀ b o, s₃.heap.get? b = some o → b ≠ s₃.heap.objs.size := fun b o e => Nat.ne_of_lt (Heap.lt_size e)
  have fr : H' s₃.heap.objs.size = Option.none := J.free
  have same : ∀ b, b ≠ s₃.heap.objs.size → h'.get? b = s'.heap.get? b := fun b hb => hs.2 b hb
  refine I.call' (s' := { s' with heap := h' }) (ch := fp) J.os ⟨fun b o e n hb hx => ?_, fun b o e n hb hx => ?_, fun b o e n hx => J.base.free b o e n hx, fun b o e hx => ?_, J.base.tups, J.base.frzs, J.base.tbls⟩ (fun b o e => ?_) J.bare fun b hb => ?_
  · exact (same b (ne b o e)).trans (J.base.keep b o e n hb hx)
  · obtain ⟨sl, q⟩ := J.base.slot b o e n hb hx
    exact ⟨sl, (same b (ne b o e)).trans q⟩
  · obtain ⟨o', q⟩ := J.base.there b o e hx
    exact ⟨o', (same b (ne b o e)).trans q⟩
  · refine (J.hok b o e).stay (fun c v hc q => (same c ?_).trans q) (fun _ q => q) fun _ _ q => q
    intro z
    rcases hc with w | w
    · rw [← w, z, fr] at e; cases e
    · rw [z, fr] at w; cases w
  · obtain ⟨_, h1, _, h3, h4, h5⟩ := hf b hb
    exact ⟨h3, h1, h4, h5⟩
end
theorem zbi {prog : Program} {w : World} {A : Around} {E : Result → Shared → Prop} {s : Shared} {elt target iter : Expr} {ifs : List Expr} {scope : Scope} {pos : Pos} {it acc : Value} {env : PySem.Env} (J : Nat → Shared → Prop)
    (turn : ∀ n s, J n s → wpAny (model prog w) A (pyNext it) (fun r s1 => match r with
      | Option.none => E (.ok .next) s1
      | some v => wpAny (model prog w) A (letOwnedTupleGo target it v) (fun _ s2 => wpAny (model prog w) A (assign target env v) (fun _ s3 =>
          wpAny (model prog w) A (forIn ifs true fun c r => if r = true then do let ok ← isTrue c env (eval c env); pure (ForInStep.yield ok) else pure (ForInStep.yield r)) (fun ok s4 =>
            if ok = true then wpAny (model prog w) A (eval elt env) (fun y s5 => wpAny (model prog w) A (call (.builtin "list.append") [acc, y]) (fun _ s6 => ∃ m, m < n ∧ J m s6) (fun _ _ => False) s5) (fun _ _ => False) s4
            else ∃ m, m < n ∧ J m s4) (fun _ _ => False) s3) (fun _ _ => False) s2) (fun _ _ => False) s1) (fun _ _ => False) s)
    (n : Nat) (h : J n s) : codeAny (model prog w) A (.compLoop (.ListComp elt [⟨target, iter, ifs, 0⟩] scope pos) 0 it acc env) E s := by
  refine codeAny_loop rfl J (fun n s hJ => ?_) n h
  show wpAny _ _ ((compTurn (.ListComp elt [⟨target, iter, ifs, 0⟩] scope pos) 0 it acc env).onRaise _) _ _ s
  refine wpAny_noted ?_
  rw [compTurn_list]
  have no : ∀ (e : Value) (s' : Shared), False → notedBy (model prog w) A env (fun e s' => E (.error e) s') e s' := fun _ _ z => z.elim
  refine wpAny_bind (wpAny_standAt (wpAny_bind (wpAny_mono (turn n s hJ) (fun r s1 h1 => ?_) no)))
  cases r with
  | none => exact wpAny_pure h1
  | some v =>
    refine wpAny_bind (wpAny_mono h1 (fun _ s2 h2 => ?_) no)
    refine wpAny_bind (wpAny_mono h2 (fun _ s3 h3 => wpAny_bind (wpAny_mono h3 (fun ok s4 h4 => ?_) no)) no)
    cases ok with
    | false => exact wpAny_pure ⟨rfl, h4⟩
    | true => exact wpAny_bind (wpAny_bind (wpAny_mono h4 (fun y s5 h5 => wpAny_bind (wpAny_mono h5 (fun _ s6 h6 => wpAny_pure (wpAny_pure ⟨rfl, h6⟩)) no)) no))
theorem R.cons {K : PySem.W.Frag} {W : Addr → Prop} {ρ : LW.Env} {σ : St} {H : Hp} {d : D} {v : V} (r : R K W ρ σ H) (h : Rep K W H d v) : R K W (some (.val d) :: ρ) (some v :: σ) H := by
  refine ⟨fun i e hi => ?_, fun i e hi => ?_, fun i x e hi hc => ?_, fun i j x y d e a h1 h2 c1 c2 h3 h4 => ?_, r.wf, by simpa using r.len⟩
  · cases i with
    | zero => cases hi; exact ⟨v, rfl, h⟩
    | succ i => exact r.val i e hi
  · cases i with
    | zero => cases hi
    | succ i => exact r.nol i e hi
  · cases i with
    | zero => cases hi; cases hc
    | succ i => exact r.own i x e hi hc
  · cases i with
    | zero => cases h1; cases c1
    | succ i =>
      cases j with
      | zero => cases h2; cases c2
      | succ j => rw [r.inj i j x y d e a h1 h2 c1 c2 h3 h4]
noncomputable def Vy (X : Cx) (fn : Nat → List D → Option SV) (scope : Scope) (x : Str) (ifs : List Expr) (cond : E) : Prop :=
  (ifs = [] ∧ cond = .bl true) ∨ ∃ c, ifs = [c] ∧ ∀ s₃ H₃ fp pins, IT (zW X scope x s₃ H₃ fp pins) fn c cond
section
variable {X : Cx} {fn : Nat → List D → Option SV}
theorem zhX {scope : Scope} {x : Str} {ifs : List Expr} {cond : E} {s₃ : Shared} {H₃ : Hp} {fp : List Addr} {pins ps : List (Addr × Obj)} {σ : St} {H : Hp} {s : Shared} {W : Addr → Prop} {ρ : LW.Env} {k : Bool} {Q : Bool → Hp → Prop}
    (hc : Vy X fn scope x ifs cond) (I : Inv (zW X scope x s₃ H₃ fp pins) ps σ H s) (hR : R X.K W ρ σ H) (he : zv fn cond ρ = some k) (q : ∀ H', Same H H' → Q k H') :
    wpAny (model X.prog X.w) X.A (forIn ifs true fun c r => if r = true then do let ok ← isTrue c (zW X scope x s₃ H₃ fp pins).env (eval c (zW X scope x s₃ H₃ fp pins).env); pure (ForInStep.yield ok) else pure (ForInStep.yield r))
      (TP (zW X scope x s₃ H₃ fp pins) ps σ Q) (fun _ _ => False) s := by
  rcases hc with ⟨rfl, rfl⟩ | ⟨c, rfl, hc⟩
  · simp only [zhd] at he
    cases he
    exact wpAny_tests_nil ⟨H, I, q H (.refl H)⟩
  · exact wpAny_tests_one ((hc s₃ H₃ fp pins).h ps s σ H Q I ⟨W, ρ, k, hR, he, q⟩)
theorem Vz {test : D → Option Bool} {elt : D → Option SV} : ∀ {ds out : List D}, yG test elt ds = some out → out.length ≤ ds.length
  | [], _, h => by simp only [yG] at h; cases h; exact Nat.le_refl _
  | d :: r, out, h => by
    simp only [yG, jo1] at h
    obtain ⟨b, e1, e2⟩ := h
    cases b with
    | true =>
      simp only [jo1, jo2] at e2
      obtain ⟨_, _, _, _, l, e3, rfl⟩ := e2
      have := Vz e3
      simp; omega
    | false => have := Vz e2; simp; omega
theorem zbj {scope : Scope} {x : Str} {s₃ : Shared} {H₃ H' : Hp} {fp : List Addr} {pins : List (Addr × Obj)} {σ : St} (S : CompSc X scope x) (I : Inv X pins σ H₃ s₃) (hf : ∀ b ∈ fp, xa X pins H₃ b) (hlt : ∀ b ∈ fp, b < s₃.heap.objs.size)
    (hn : ∀ b ∈ fp, H' b = Option.none) : ∀ b ∈ fp, xa (zW X scope x s₃ H₃ fp pins) [] H' b := fun b hb => by
  have ok := zbf S I hf hlt
  refine ⟨hn b hb, (ok.exf b hb).1, ok.exfs b hb, .inl hb, (ok.exf b hb).2, fun p hp => ?_⟩
  have hp : p ∈ X.pn ++ pins := by simpa [zW] using hp
  exact (hf b hb).2.2.2.2.2 p hp
structure CSt (X : Cx) (scope : Scope) (x : Str) (s₃ : Shared) (H₃ : Hp) (fp : List Addr) (pins : List (Addr × Obj)) (σ : St) (tn : Nat → Heap → Prop) (H2 : Hp) (W : Addr → Prop) (L : Addr) (test : D → Option Bool) (elt : D → Option SV) (ds out : List D)
    (n k : Nat) (y : Option V) (H' : Hp) (ys : List V) (out1 zL : List D) (s' : Shared) : Prop where
  inv : Inv (zW X scope x s₃ H₃ fp pins) [] (y :: σ) H' s'
  htn : tn k s'.heap
  hfp : ∀ b ∈ fp, H' b = Option.none
  hn : n = ds.length + 1 - k
  hk : k ≤ ds.length
  same : Same H2 H'
  lst : H' L = some (.lst ys)
  reps : Reps X.K (add W L) H' out1 ys
  hrest : yG test elt (ds.drop k) = some zL
  hout : out = out1 ++ zL
theorem zbk {iter elt : Expr} {x : Str} {px pos pos2 : Pos} {ifs : List Expr} {scope : Scope} {rng : Bool} {src : Es} {cond ce : E} {pins : List (Addr × Obj)} {s : Shared} {σ : St} {H : Hp} {W : Addr → Prop} {ρ : LW.Env} {rs : List SV} {ds out : List D} {use : Option (Value → Sem Unit)} {Qe : Value → Shared → Prop}
    (hcalm : X.calm = true) (S : CompSc X scope x) (hsrc : Src X fn (.Name x px) iter rng src)
    (hcond : Vy X fn scope x ifs cond) (helt : ∀ s₃ H₃ fp pins, IE (zW X scope x s₃ H₃ fp pins) fn elt ce) (hfo : ∀ y, foldedSetIterable iter X.env y = pure y) (I : Inv X pins σ H s) (hR : R X.K W ρ σ H)
    (e1 : zM fn src ρ = some rs) (e2 : zZ rng rs = some ds) (hline : ds.length ≤ line) (e3 : yG (fun d => zv fn cond (some (.val d) :: ρ)) (fun d => zg fn ce (some (.val d) :: ρ)) ds = some out)
    (fin : ∀ (s4 : Shared) (fl : Flow) (m : Str → Option Value) (C L : Addr) (H' : Hp), s4.heap.Ns C m → (∀ h', Heap.SameBut C s4.heap h' → Inv X pins σ H' { s4 with heap := h' }) → (X.s₀.heap.objs.size ≤ C ∧ C ≠ X.env.locals ∧ (∀ y c, X.env.cells.lookup y = some c → c ≠ C) ∧ (∀ p ∈ X.pn ++ pins, p.1 ≠ C) ∧ H' C = Option.none) → Same H H' →
      Res X.K W H H' (.obj true (.lst out)) (.ref L) → compPost (model X.prog X.w) X.A X.xe use Qe (.ref L) C (.ok fl) s4) :
    wpAny (model X.prog X.w) X.A (comprehension (.ListComp elt [⟨.Name x px, iter, ifs, 0⟩] scope pos) scope X.env pos2 (newList []) false (eval iter X.env) use) Qe X.xe s := by
  have hclos := zbb (scope := scope) (env := X.env) (S.cells I.ok)
  refine wpAny_comprehension_free (use := use) rfl hfo hclos S.kind S.names ?_
  refine zk (hsrc.h pins s σ H (fun J H2 => Same H H2 ∧ Ys X.K J W H2 ds) I ⟨W, ρ, rs, ds, hR, e1, e2, fun J H' s1 y _ => ⟨s1, y⟩⟩) fun v s1 h1 => zk h1 fun itv s2 h2 => ?_
  obtain ⟨it, fp, tn, J, H2, rfl, I2, T, st2, f2, sm, hy⟩ := h2
  refine wpAny_newObj_type (zbe S fun h₁ hns₁ hk₁ hc₁ => ?_)
  have I3 := I2.lnew (t' := s2.toks) (ys := []) (its := []) .nil (Nat.zero_le _)
  have hD : H2 s2.heap.objs.size = Option.none := I2.fresh
  generalize hL : s2.heap.objs.size = L at hD
  generalize hs3 : ({ s2 with heap := s2.heap.push { cls := .type "list", data := .seq ([] : List Value).toArray }, toks := s2.toks } : Shared) = s₃ at I3
  have hs3h : s₃.heap = s2.heap.push { cls := .type "list", data := .seq ([] : List Value).toArray } := by rw [← hs3]
  rw [hL] at I3
  generalize hH3 : zr H2 L (.lst []) = H₃ at I3
  have blt : ∀ b ∈ fp, b < s2.heap.objs.size := fun b hb => by
    obtain ⟨o, e, _⟩ := T.obj _ _ st2 b hb
    exact Heap.lt_size e
  have hlt : ∀ b ∈ fp, b < s₃.heap.objs.size := fun b hb => by rw [hs3h, Heap.size_push]; exact Nat.lt_succ_of_lt (blt b hb)
  have hf : ∀ b ∈ fp, xa X pins H₃ b := fun b hb => by
    refine ⟨?_, (f2 b hb).2⟩
    rw [← hH3, zw (by rw [← hL]; exact Nat.ne_of_lt (blt b hb))]
    exact (f2 b hb).1
  have keep1 : ∀ b o, s₃.heap.get? b = some o → h₁.get? b = some o := fun b o e => by
    rw [hs3h] at e
    exact hk₁ b o e
  have ns1 : h₁.Ns s₃.heap.objs.size fun _ => Option.none := by rw [hs3h]; exact hns₁
  have Ic := zbg (tk := s2.toks) S I3 hf hlt ns1 keep1 (by rw [hs3h]; exact hc₁)
  have fpc := fun {H' : Hp} hn => zbj (H' := H') S I3 hf hlt hn
  have win : ∀ b, add W L b → W b ∨ H2 b = Option.none := fun b w => by
    rcases w with w | rfl
    · exact .inl w
    · exact .inr hD
  have hRL : ∀ {H' : Hp} {ys : List V}, Same H2 H' → H' L = some (.lst ys) → R X.K (add W L) ρ σ H' := fun {H' ys} sm' e => (hR.same sm).add sm' hD e
  have lenO : out.length ≤ ds.length := Vz e3
  have loop : ∀ s' : Shared, s' = { s₃ with heap := h₁, toks := s2.toks } → codeAny (model X.prog X.w) X.A (.compLoop (.ListComp elt [⟨.Name x px, iter, ifs, 0⟩] scope pos) 0 (.ref it) (.ref L) (zW X scope x s₃ H₃ fp pins).env)
      (compPost (model X.prog X.w) X.A X.xe use Qe (.ref L) s₃.heap.objs.size) s' := by
    rintro s' rfl
    refine zbi (fun n s' => ∃ k y H' ys out1 zL, CSt X scope x s₃ H₃ fp pins σ tn H2 W L (fun d => zv fn cond (some (.val d) :: ρ)) (fun d => zg fn ce (some (.val d) :: ρ)) ds out n k y H' ys out1 zL s') ?_ (ds.length + 1)
      ⟨0, Option.none, H₃, [], [], out, Ic, T.keep _ _ _ st2 (fun b hb o e => keep1 b o (by rw [hs3h]; exact Heap.get?_push_of_some _ e)), fun b hb => (hf b hb).1, rfl, Nat.zero_le _, by rw [← hH3]; exact yx hD _, by rw [← hH3]; exact yf, .nil, e3, rfl⟩
    rintro n s' ⟨k, y, H', ys, out1, zL, c⟩
    obtain ⟨hstop, hgo⟩ := hy (add W L) H' c.same win k
    by_cases hk : k < ds.length
    · have hd : ds[k]? = some ds[k] := by simp [hk]
      obtain ⟨g1, g2⟩ := hgo _ hd
      have crest := c.hrest
      rw [QT hd] at crest
      simp only [yG, jo1] at crest
      obtain ⟨b, t1, t2⟩ := crest
      refine zk (T.item (zW X scope x s₃ H₃ fp pins) rfl rfl rfl hcalm k [] s' (y :: σ) H' _ c.inv (fpc c.hfp) c.htn g1) fun r s4 ⟨u, hr, h4⟩ => ?_
      subst hr
      refine zk h4 fun _ s5 ⟨xv, H5, I5, r5, y5, st5, fr5⟩ => ?_
      obtain ⟨rfl, rv⟩ := g2 xv H5 y5
      have I5' := I5.pinned (fpc fr5) (T.obj _ _ st5)
      refine zk (vn (X := zW X scope x s₃ H₃ fp pins) (i := 0) S.nd rfl S.locX S.fnX _ s5 (y :: σ) H5 xv u (fun σ' H' => σ' = some xv :: σ ∧ H' = H5) I5' r5 ⟨rfl, rfl⟩) fun _ s6 ⟨σ6, H6, I6, q6, q7⟩ => ?_
      subst q6 q7
      have hRc := (hRL c.same c.lst).cons rv
      refine zk (zhX (Q := fun b' H7 => b' = b ∧ Same H6 H7) hcond I6 hRc t1 fun H7 s7 => ⟨rfl, s7⟩) fun ok s7 ⟨H7, I7, q7, m7⟩ => ?_
      subst q7
      have back : ∀ {s' : Shared} {H' : Hp}, Inv (zW X scope x s₃ H₃ fp pins) ([] ++ jK fp s5.heap) (some xv :: σ) H' s' → tn (k + 1) s'.heap ∧ ∀ b ∈ fp, H' b = Option.none := fun {s' H'} J => by
        refine ⟨T.keep _ _ _ st5 fun b hb o e => (J.pin (b, o) (List.mem_append_right _ (List.mem_append_right _ (jL hb e)))).1, fun b hb => ?_⟩
        obtain ⟨o, e, d⟩ := T.obj _ _ st5 b hb
        exact (J.pin (b, o) (List.mem_append_right _ (List.mem_append_right _ (jL hb e)))).2.1
      cases ok with
      | false =>
        rw [if_neg Bool.false_ne_true]
        have bk := back I7
        exact ⟨_, by have := c.hn; omega, k + 1, some xv, H7, ys, out1, zL, I7.unpinned, bk.1, bk.2, rfl, hk, c.same.trans m7, m7 _ _ c.lst, c.reps.ext (.same m7), t2, c.hout⟩
      | true =>
        rw [if_pos rfl]
        simp only [jo1, jo2] at t2
        obtain ⟨r8, t3, d8, t4, rest', t5, rfl⟩ := t2
        have hR7 := hRc.same m7
        refine zk ((helt s₃ H₃ fp pins).h _ s7 _ H7 (fun v H8 => Same H7 H8 ∧ Rep X.K (add W L) H8 d8 v) I7 ⟨add W L, _, r8, hR7, t3, fun v8 H8 m8 res => ⟨m8, (res.frz hR7.wf).toD t4⟩⟩) fun u8 s8 ⟨v8, H8, I8, rl8, m8, rp8⟩ => ?_
        have lst8 := m8 _ _ (m7 _ _ c.lst)
        have lenY := c.reps.length
        have lenT := congrArg List.length c.hout
        rw [List.length_append, List.length_cons] at lenT
        have le := vz
        refine zk (XQ (X := zW X scope x s₃ H₃ fp pins) _ s8 _ H8 (.ref L) [v8] (.ref L) [u8] (fun _ H9 => H9 = zr H8 L (.lst (ys ++ [v8]))) I8 rfl (.cons rl8 .nil) ⟨L, ys, v8, rfl, rfl, lst8, by omega, rfl⟩) fun _ s9 ⟨_, H9, I9, _, q9⟩ => ?_
        subst q9
        have bk := back I9
        have ext : Ext (add W L) H8 (add W L) (zr H8 L (.lst (ys ++ [v8]))) := by
          refine ⟨fun b o q n => ?_, fun b zs q => ?_, fun b o u q => ?_, fun b w => .inl w⟩
          · rw [zw (fun z => n (.inr z))]; exact q
          · rw [zw (fun z => by rw [z, lst8] at q; cases q)]; exact q
          · rw [zw (fun z => by rw [z, lst8] at q; cases q)]; exact q
        have smL : Same H2 (zr H8 L (.lst (ys ++ [v8]))) := fun b o q => by
          rw [zw (fun z => by rw [z, hD] at q; cases q)]
          exact m8 _ _ (m7 _ _ (c.same _ _ q))
        exact ⟨_, by have := c.hn; omega, k + 1, some xv, _, ys ++ [v8], out1 ++ [d8], rest', I9.unpinned, bk.1, bk.2, rfl, hk, smL, yf, ((c.reps.ext (.same (m7.trans m8))).ext ext).append (.cons (rp8.ext ext) .nil), t5, by rw [c.hout]; simp⟩
    · have ek : k = ds.length := by have := c.hk; omega
      refine zk (T.done (zW X scope x s₃ H₃ fp pins) rfl rfl rfl hcalm k [] s' (y :: σ) H' _ c.inv (fpc c.hfp) c.htn (hstop ek)) fun r s4 ⟨hr, I4⟩ => ?_
      subst hr
      obtain ⟨m, hn, _⟩ := I4.loc
      have er := c.hrest
      rw [List.drop_of_length_le (by omega), yG] at er
      cases er
      have eo := c.hout
      rw [List.append_nil] at eo
      refine fin s4 _ m _ L H' hn (fun h' hs => zbh I3 hf I4 hs) ⟨I3.sz, (Nat.ne_of_lt I3.lt).symm, fun y cc hc => ?_, fun p hp => ?_, I4.free⟩ (sm.trans c.same) (by rw [eo]; exact .new (sm.free hD) c.lst (.lst c.reps))
      · obtain ⟨v, o, ho, _⟩ := I3.cell y cc hc
        exact Nat.ne_of_lt (Heap.lt_size ho)
      · exact Nat.ne_of_lt (Heap.lt_size (I3.pin p hp).1)
  have st0 : tn 0 h₁ := T.keep _ _ _ st2 (fun b hb o e => keep1 b o (by rw [hs3h]; exact Heap.get?_push_of_some _ e))
  subst hs3 hL
  exact codeAny_compStart_list (loop _ rfl) (T.self X.A 0 _ _ _ st0 (loop _ rfl))
theorem Yw {iter elt : Expr} {x : Str} {px pos : Pos} {ifs : List Expr} {scope : Scope} {rng : Bool} {src : Es} {cond ce : E} (hcalm : X.calm = true) (S : CompSc X scope x) (hsrc : Src X fn (.Name x px) iter rng src)
    (hcond : Vy X fn scope x ifs cond) (helt : ∀ s₃ H₃ fp pins, IE (zW X scope x s₃ H₃ fp pins) fn elt ce) (hfo : ∀ y, foldedSetIterable iter X.env y = pure y := by intro _; rfl) :
    IE X fn (.ListComp elt [⟨.Name x px, iter, ifs, 0⟩] scope pos) (.comp rng src cond ce) := by
  refine .mk ?_
  rintro pins s σ H Q I ⟨W, ρ, r, hR, he, q⟩
  simp only [zaB, jo1] at he
  obtain ⟨rs, e1, ds, e2, e3⟩ := he
  split at e3
  case isFalse => cases e3
  rename_i hline
  rw [jo2] at e3
  obtain ⟨out, e3, rfl⟩ := e3
  rw [eval_ListComp]
  refine zbk (use := Option.none) hcalm S hsrc hcond helt hfo I hR e1 e2 hline e3 fun s4 fl m C L H' hn back _ sm res => ?_
  exact ⟨m, hn, fun h' hs => ⟨.ref L, H', back h' hs, rfl, q _ H' sm res⟩⟩
theorem VA (i : Nat) {fa : Nat → List D → Option Ans} {fuel : Nat} {iter elt : Expr} {x y : Str} {px py pos spos : Pos} {ifs : List Expr} {scope : Scope} {rng : Bool} {src : Es} {cond ce : E} (hcalm : X.calm = true) (hN : X.N.Nodup) (hi : X.N[i]? = some y) (hy : X.env.scope.names.lookup y = some .local) (S : CompSc X scope x) (hsrc : Src X (zx fa) (.Name x px) iter rng src)
    (hcond : Vy X (zx fa) scope x ifs cond) (helt : ∀ s₃ H₃ fp pins, IE (zW X scope x s₃ H₃ fp pins) (zx fa) elt ce)
    (hsw : swapsWith (.ListComp elt [⟨.Name x px, iter, ifs, 0⟩] scope pos) (some (.Name y py)) spos.line X.env = pure true := by rfl) (hfo : ∀ y, foldedSetIterable iter X.env y = pure y := by intro _; rfl) :
    IS X (zB fa fuel (.asg i (.comp rng src cond ce))) (.Assign [.Name y py] (.ListComp elt [⟨.Name x px, iter, ifs, 0⟩] scope pos) spos) := by
  refine .mk ?_
  rintro pins s σ H D0 I ⟨W, ρ, z, hR, hz, q⟩
  simp only [zaC, jo1] at hz
  obtain ⟨r, he, hz⟩ := hz
  split at hz
  case isTrue => cases hz
  rename_i hl
  cases hz
  simp only [Bool.not_eq_true, Bool.or_eq_false_iff, Bool.not_eq_false'] at hl
  simp only [zaB, jo1] at he
  obtain ⟨rs, e1, ds, e2, e3⟩ := he
  split at e3
  case isFalse => cases e3
  rename_i hline
  rw [jo2] at e3
  obtain ⟨out, e3, rfl⟩ := e3
  rw [exec_Assign_Name_used _ _ _ _ hsw]
  refine wpAny_bind (wpAny_standAt (wpAny_bind ?_))
  show wpAny _ X.A (do let _ ← comprehension (.ListComp elt [⟨.Name x px, iter, ifs, 0⟩] scope pos) scope X.env _ (newList []) false (eval iter X.env) (some (assign (.Name y py) X.env))) _ _ s
  refine wpAny_bind (wpAny_mono (zbk (use := some (assign (.Name y py) X.env)) (Qe := fun _ s' => SP X pins D0 .next s') hcalm S hsrc hcond helt hfo I hR e1 e2 hline e3 fun s4 fl m C L H' hn back cf sm res => ?_) (fun _ s' hq => wpAny_pure (wpAny_pure hq)) fun _ _ e => e)
  have I4 : Inv X pins σ H' s4 := back s4.heap ⟨rfl, fun _ _ => rfl⟩
  refine wpAny_assign_Name (gg I4 hN hi (.inl hy) (v := .ref L) rfl (fun s5 I5 ⟨a, hs5, ha⟩ => ?_) (.inr hy))
  have haC : a ≠ C := by
    rcases ha with rfl | ha
    · exact fun z => cf.2.1 z.symm
    · exact cf.2.2.1 _ _ ha
  have hnC : s5.heap.Ns C m := by
    obtain ⟨o, es, ep, ho, hrest⟩ := hn
    exact ⟨o, es, ep, (hs5.2 C (Ne.symm haC)).trans ho, hrest⟩
  refine ⟨m, hnC, fun h' hs => ?_⟩
  have I6 : Inv X pins (σ.set i (some (.ref L))) H' { s5 with heap := h' } := by
    refine I5.call' (s' := { s5 with heap := h' }) (ch := [C]) rfl ⟨fun b o e n hb hx => ?_, fun b o e n hb hx => ?_, fun b o e n hx => n, fun b o e hx => ?_, fun _ _ q => q, fun _ _ _ q => q, fun _ ps q => ⟨#[], by simpa using q⟩⟩ ?_ I5.bare fun b hb => ?_
    · exact (hs.2 b (by simpa using hx)).trans e
    · exact ⟨o.slots, (hs.2 b (by simpa using hx)).trans e⟩
    · exact ⟨o, (hs.2 b (by simpa using hx)).trans e⟩
    · intro b o e
      refine (I5.hok b o e).stay (fun c v hc q => (hs.2 c ?_).trans q) (fun _ q => q) fun _ _ q => q
      intro z
      rcases hc with w | w
      · rw [← w, z, cf.2.2.2.2] at e; cases e
      · rw [z, cf.2.2.2.2] at w; cases w
    · have e : b = C := by simpa using hb
      subst e
      exact ⟨.inr cf.1, cf.2.1, cf.2.2.1, cf.2.2.2.1⟩
  cases res with
  | new h e r => exact ⟨_, H', I6, q _ _ H' (za4 hR sm h e r (Yh hl.2))⟩
end
end L2.LW
set_option maxHeartbeats 4000000
namespace L2.LW
open PySem PySem.Spec PyProof.Rows
noncomputable def Yx : Ty → String
  | .bool => "bool" | .int => "int" | .str => "str" | .list => "list" | .tuple => "tuple"
noncomputable def zhY : D → String
  | .int _ => "int" | .bl _ => "bool" | .non => "NoneType" | .str _ => "str" | .tup _ => "tuple" | .lst _ => "list" | .dct _ _ _ => "dict"
theorem zhZ (K : PySem.W.Frag) (d : D) (t : Ty) : PySem.W.kitOne K (.type (zhY d)) (.type (Yx t)) = some (wj t d) := by
  cases d <;> cases t <;> rfl
section
variable {X : Cx} {fn : Nat → List D → Option SV}
theorem zh0 {pins : List (Addr × Obj)} {σ : St} {H : Hp} {s : Shared} {W : Addr → Prop} {A : Around} {E Q : Value → Shared → Prop} {d : D} {x : V} {u : Value} {t : Ty} (I : Inv X pins σ H s) (h : Sees X.K W H d x) (r : RelV x u)
    (q : ∀ tk, Q (.bool (wj t d)) { s with toks := tk }) : wpAny (model X.prog X.w) A (call (.builtin "isinstance") [u, .type (Yx t)]) Q E s := by
  have e := zhZ X.K d t
  cases d with
  | int i => cases h.int; obtain ⟨tk, rfl⟩ := r; exact PySem.W.kia_one PySem.W.kitx_int I.kIn True.intro e (fun z => nomatch z) q
  | bl b => cases h.bl; cases r; exact PySem.W.kia_one PySem.W.kitx_bool I.kIn True.intro e (fun z => nomatch z) q
  | non => cases h.non; cases r; exact PySem.W.kia_one PySem.W.kitx_none I.kIn True.intro e (fun z => nomatch z) q
  | str y => cases h.str; obtain ⟨tk, rfl⟩ := r; exact PySem.W.kia_one PySem.W.kitx_str I.kIn True.intro e (fun z => nomatch z) q
  | tup l =>
    obtain ⟨a, xs, rfl, hq, _⟩ := h.tup
    cases r
    obtain ⟨its, rv, ⟨o, ho, hc, n, hd⟩, hz⟩ := I.tuple hq
    exact PySem.W.kia_one PySem.W.kitx_tuple I.kIn ⟨o, ho, hc⟩ e (fun z => nomatch z) q
  | lst l =>
    obtain ⟨a, xs, rfl, hq, _⟩ := h.lst
    cases r
    obtain ⟨its, rv, ⟨o, n, ho, hc, _, hd⟩, hz⟩ := I.list hq
    exact PySem.W.kia_one PySem.W.kitx_list I.kIn ⟨o, ho, hc⟩ e (fun z => nomatch z) q
  | dct b ks vs =>
    cases b with
    | false =>
      obtain ⟨a, ns, ys, rfl, _, hH, _⟩ := h.dK
      cases r
      obtain ⟨_, _, vs, _, ob, _, _, h1, h2, _⟩ := je I.hok hH
      exact PySem.W.kia_one PySem.W.kitx_dict I.kIn ⟨ob, h1, h2.1⟩ e (fun z => nomatch z) q
    | true =>
      obtain ⟨a, ns, ys, rfl, _, hH, _⟩ := h.dT
      cases r
      obtain ⟨_, _, xs, _, ob, _, _, h1, h2, _⟩ := jf I.hok (.inl hH)
      exact PySem.W.kia_one PySem.W.kitx_dict I.kIn ⟨ob, h1, h2.1⟩ e (fun z => nomatch z) q
theorem zh1 (t : Ty) : CallR X (.builtin "isinstance") (fun xs H Q => ∃ x, xs = [x, .ty (Yx t)] ∧ VR X.K (ze (.inst t)) [x] H Q) := by
  rintro pins s σ H xs us Q I rv ⟨x, rfl, W, ds, r, wf, hs, hf, q⟩
  obtain ⟨d, rfl, h1⟩ := Qx hs
  replace hf : zav t [d] = some r := hf
  cases hf
  obtain ⟨u, w', rfl, r1, r2⟩ := JU rv
  cases r2
  exact zh0 I h1 r1 fun tk => ⟨.bl _, H, I.tok tk, rfl, q _ H (.refl H) (.val (.bl _))⟩
theorem Yy {a : Expr} {ca : E} {t : Ty} {y : Str} {p p2 pos : Pos} (hg : Gl X "isinstance") (hm : X.mg "isinstance" = Option.none) (hg2 : Gl X y) (hm2 : X.mg y = Option.none) (hv : bootBuiltins y = some (.type (Yx t))) (ha : IE X fn a ca)
    (hn : y ≠ "__name__" := by decide) (hdb : (y == ("__debug__" : Str)) = false := by decide)
    (h1 : starEach [a, .Name y p2] X.env = (false, eval a X.env) :: starEach [.Name y p2] X.env := by rfl) (h2 : starEach [.Name y p2] X.env = (false, eval (.Name y p2) X.env) :: starEach [] X.env := by rfl)
    (hpl : (backTo pos (starEach [.Name y p2] X.env)).any (·.1) = false := by rfl) :
    IE X fn (.Call (.Name "isinstance" p) [a, .Name y p2] [] pos) (.prim (.inst t) (.cons ca .nil)) :=
  .mk <| (gJ (zh1 t) hg hm PyProof.Rows.boot_isinstance (vp ha.v (vp (zeR hg2 hm2 hv (v := .ty (Yx t)) rfl hn hdb) wR h2) h1) (by decide) (by decide) h1 hpl).imp fun σ H Q zz3 => by
    obtain ⟨W, ρ, r, hR, he, q⟩ := zz3
    simp only [xg, yI, yJ, jo1, jo2] at he
    obtain ⟨rs, ⟨r1, e1, rs', e3, rfl⟩, e4⟩ := he
    cases e3
    exact ⟨W, ρ, r1, hR, e1, fun v1 H1 s1 f1 => ⟨v1, rfl, Vn hR s1 (.cons f1 .nil) e4 q⟩⟩
theorem QX {K : PySem.W.Frag} {W : Addr → Prop} {H : Hp} {d : D} {v : V} (h : Sees K W H d v) : decide (v = .non) = wT d := by
  cases d with
  | int i => cases h.int; rfl
  | bl i => cases h.bl; rfl
  | str i => cases h.str; rfl
  | non => cases h.non; rfl
  | tup l => obtain ⟨a, xs, rfl, _⟩ := h.tup; rfl
  | lst l => obtain ⟨a, xs, rfl, _⟩ := h.lst; rfl
  | dct b ks vs =>
    cases b with
    | false => obtain ⟨a, ns, ys, rfl, _⟩ := h.dK; rfl
    | true => obtain ⟨a, ns, ys, rfl, _⟩ := h.dT; rfl
theorem zbl {a : Expr} {ca : E} {j : Nat} {p pos : Pos} (ha : IE X fn a ca) : IE X fn (.Compare a [.IsNot] [.Constant .none j p] pos) (.prim .notN (.cons ca .nil)) :=
  .mk <| (zeV (gp ha.v)).imp fun σ H Q zz3 => by
    obtain ⟨W, ρ, r, hR, he, q⟩ := zz3
    simp only [xg, yI, yJ, jo1, jo2] at he
    obtain ⟨rs, ⟨r1, e1, rs', e3, rfl⟩, e4⟩ := he
    cases e3; cases e4
    refine ⟨W, ρ, r1, hR, e1, fun v1 H1 s1 f1 => ?_⟩
    show Q (.bl (!decide (v1 = .non))) H1
    rw [QX f1.sees]
    exact q _ H1 s1 (.val (.bl _))
theorem zh2 {a : Expr} {ca : E} {j : Nat} {p pos : Pos} (ha : IE X fn a ca) : IT X fn (.Compare a [.Is] [.Constant .none j p] pos) (.prim .isN (.cons ca .nil)) :=
  .mk <| (JK (zeU ha.v)).imp fun σ H Q zz3 => by
    obtain ⟨W, ρ, k, hR, he, q⟩ := zz3
    simp only [Yf, yI, yJ, jo1, jo2] at he
    obtain ⟨rs, ⟨r1, e1, rs', e3, rfl⟩, r2, e4, e5⟩ := he
    cases e3; cases e4; cases e5
    refine ⟨W, ρ, r1, hR, e1, fun v1 H1 s1 f1 => ⟨_, rfl, ?_⟩⟩
    rw [QX f1.sees]
    exact q H1 s1
theorem zbm {a : Expr} {ca : E} {j : Nat} {p pos : Pos} (ha : IE X fn a ca) : IT X fn (.Compare a [.IsNot] [.Constant .none j p] pos) (.prim .notN (.cons ca .nil)) :=
  .mk <| (JK (gp ha.v)).imp fun σ H Q zz3 => by
    obtain ⟨W, ρ, k, hR, he, q⟩ := zz3
    simp only [Yf, yI, yJ, jo1, jo2] at he
    obtain ⟨rs, ⟨r1, e1, rs', e3, rfl⟩, r2, e4, e5⟩ := he
    cases e3; cases e4; cases e5
    refine ⟨W, ρ, r1, hR, e1, fun v1 H1 s1 f1 => ⟨_, rfl, ?_⟩⟩
    rw [QX f1.sees]
    exact q H1 s1
theorem zbn (l : List Int) : (vv l).Perm l := List.mergeSort_perm _ _
theorem zh3 (l : List Int) : (vv l).Pairwise (· ≤ ·) := by
  have h := List.pairwise_mergeSort (le := fun (a b : Int) => decide (a ≤ b)) (fun a b c h1 h2 => by simp at *; omega) (fun a b => by simp; omega) l
  exact h.imp fun h => by simpa using h
theorem zh4 {ds : List D} {ns : List Int} {pins : List (Addr × Obj)} {s : Shared} {σ : St} {H : Hp} {xs : List V} {us : List Value} {Q : VK} (I : Inv X pins σ H s) (rv : Vals xs us)
    {W : Addr → Prop} {l : List D} (hs : Paired (Sees X.K W H) [.lst l] xs) (e1 : ints? l = some ns) (h64 : ns.length < 64) (q : ∀ v H', Same H H' → Res X.K W H H' (.obj true (.lst ((vv ns).map .int))) v → Q v H') :
    wpAny (model X.prog X.w) X.A (call (.builtin "sorted") us) (EP X pins σ Q) X.xe s := by
  cases hs with
  | cons h1 t =>
    cases t
    obtain ⟨p, ys, rfl, hp, rp⟩ := h1.lst
    have ey := rp.ofInts e1
    subst ey
    obtain ⟨u, rfl, ru⟩ := wQ rv
    cases ru
    obtain ⟨its, rv', pl, hz⟩ := I.list hp
    have hi := vM rv'
    have hlen := rv'.length
    rw [List.length_map] at hlen
    refine sorted_ints pl.isList hi (by omega) fun out ns' a1 a2 a3 => ?_
    have en : ns' = vv ns := PySem.W.ksm_same (a2.trans (zbn ns).symm) a3 (zh3 ns)
    subst en
    obtain ⟨e, he⟩ := sortedAll_at s.heap its out
    have hl2 := (zbn ns).length_eq
    have fr : H (s.heap.objs.size + 1) = Option.none := I.hok.fresh (Nat.le_succ _)
    refine ⟨.ref (s.heap.objs.size + 1), zr H (s.heap.objs.size + 1) (.lst ((vv ns).map V.int)), I.laid (t' := s.toks) (fun _ _ => sortedAll_old) (Nat.le_succ _) ⟨?_, out.toList, e, Qd a1, ?_⟩, rfl, q _ _ (yx fr _) (jm fr (.ints _))⟩
    · rw [List.length_map]; exact Nat.le_of_lt (XT (by omega))
    · simpa [seqObj] using he
theorem zbo {K : PySem.W.Frag} {W : Addr → Prop} {H : Hp} : ∀ {ds : List D} {xs : List V} {bs : List Bool}, Reps K W H ds xs → bools? ds = some bs → xs = bs.map V.bl
  | _, _, bs, .nil, e => by simp [bools?] at e; subst e; rfl
  | _, _, bs, .cons h t, e => by
    cases h with
    | bl i =>
      simp only [bools?, jo2] at e
      obtain ⟨ms, e1, rfl⟩ := e
      rw [zbo t e1]; rfl
    | _ => simp [bools?] at e
theorem zbp : ∀ {bs : List Bool} {us : List Value}, Vals (bs.map V.bl) us → us = bs.map Value.bool
  | [], us, r => by cases r; rfl
  | b :: bs, us, r => by
    cases r with
    | cons h t => cases h; rw [zbp t]; rfl
theorem zh5 (bs : List Bool) : ((List.range bs.length).all fun i => bs.getD i true) = bs.all id := by
  induction bs with
  | nil => rfl
  | cons b r ih =>
    rw [List.length_cons, List.range_succ_eq_map, List.all_cons, List.all_map, List.all_cons]
    simp only [Function.comp_def, List.getD_cons_succ, List.getD_cons_zero]
    rw [ih]; rfl
theorem zbq (hc : X.calm = true) : CallR X (.builtin "all") (VR X.K (ze .all)) := by
  rintro pins s σ H xs us Q I rv ⟨W, ds, r, wf, hs, hf, q⟩
  replace hf : Vc ds = some r := hf
  unfold Vc at hf
  split at hf
  · rename_i l
    rw [jo1] at hf
    obtain ⟨bs, e1, hf⟩ := hf
    cases hf
    cases hs with
    | cons h1 t =>
      cases t
      obtain ⟨p, ys, rfl, hp, rp⟩ := h1.lst
      have ey := zbo rp e1
      subst ey
      obtain ⟨u, rfl, ru⟩ := wQ rv
      cases ru
      obtain ⟨its, rv', pl, hz⟩ := I.list hp
      have ei := zbp rv'
      subst ei
      obtain ⟨o, n, ho, hcl, hdi, hda⟩ := id pl
      have hne : p ≠ s.heap.objs.size := Nat.ne_of_lt (Heap.lt_size ho)
      refine call_all_walk (wpAny_pyIter_list pl.isList ?_)
      refine ⟨s.heap.objs.size, _, _, _, _, _, fun i => bs.getD i true, rfl, Walks.list (A := X.A.in1) (I.ok.hd hc) s.heap.objs.size p hne (bs.map Value.bool).toArray, ⟨⟨_, Heap.get?_push_size _ rfl, rfl, rfl⟩, ⟨o, Heap.get?_push_of_some _ ho, hcl, n, hda⟩⟩, ?_, fun h' tk hk => ?_⟩
      · intro i v s' Q' E' hv hQ
        have hv : (bs.map Value.bool).toArray[i]? = some v := hv
        rw [List.getElem?_toArray, List.getElem?_map, jo2] at hv
        obtain ⟨b, e2, rfl⟩ := hv
        have e3 : bs.getD i true = b := by rw [List.getD_eq_getElem?_getD, e2]; rfl
        have hQ : Q' (bs.getD i true) s' := hQ
        rw [e3] at hQ
        exact wpAny_truthy_bool hQ
      · rw [List.size_toArray, List.length_map, zh5]
        refine ⟨.bl _, H, I.kept (t' := tk) (fun b o' e => ?_), rfl, q _ H (.refl H) (.val (.bl _))⟩
        exact hk b o' (by simpa using Nat.ne_of_lt (Heap.lt_size e)) (Heap.get?_push_of_some _ e)
  · cases hf
theorem zh6 (xs : List V) (k : Int) (hk : 0 ≤ k) : jO xs Option.none (some k) = xs.take k.toNat := by
  obtain ⟨n, rfl⟩ := Int.eq_ofNat_of_zero_le hk
  unfold jO
  rw [HT.sIx_none, HT.sIx_nat, List.drop_zero, Nat.sub_zero, Int.toNat_natCast]
  rcases Nat.le_total n xs.length with h | h
  · rw [Nat.min_eq_left h]
  · rw [Nat.min_eq_right h, List.take_of_length_le (Nat.le_refl _), List.take_of_length_le h]
theorem zh7 {a b : Expr} {ca cb : E} {p pos : Pos} (ha : IE X fn a ca) (hb : IE X fn b cb) : IE X fn (.Subscript a (.Slice Option.none (some b) Option.none p) pos) (.prim .cutTo (.cons ca (.cons cb .nil))) :=
  .mk <| (zf3 zgd ha.v zf0 (zf1 hb.v)).imp fun σ H Q zz3 => by
    obtain ⟨W, ρ, r, hR, he, q⟩ := zz3
    simp only [xg, yI, yJ, jo1, jo2] at he
    obtain ⟨rs, ⟨r1, e1, rs', ⟨r2, e2, rs'', e3, rfl⟩, rfl⟩, e4⟩ := he
    cases e3
    refine ⟨W, ρ, r1, hR, e1, fun v1 H1 s1 f1 => ⟨W, ρ, r2, hR.same s1, e2, fun v2 H2 s2 f2 => ?_⟩⟩
    replace e4 : Vd [zq r1, zq r2] = some r := e4
    unfold Vd at e4
    split at e4
    · rename_i l k z
      have h1 := (f1.same s2).sees
      have h2 := f2.sees
      injection z with z1 z2
      injection z2 with z2 _
      rw [z1] at h1
      rw [z2] at h2
      split at e4
      · rename_i hk
        cases e4
        obtain ⟨p, xs, rfl, hp, rp⟩ := h1.lst
        cases h2.int
        refine ⟨k, rfl, p, xs, rfl, hp, fun p' hp' => ?_⟩
        rw [zh6 xs k hk]
        have s12 := s1.trans s2
        exact q _ _ (s12.trans (yx hp' _)) ((jm hp' (rp.take _)).back s12)
      · cases e4
    · cases e4
theorem yT {scope : Scope} {env : PySem.Env} {y : Str} (h : scope.names.lookup y = some .free) : wz (relabel scope env) y := by
  unfold wz relabel
  have key : ∀ (names : List (Str × NameKind)), names.lookup y = some .free →
      (names.map fun (z : Str × NameKind) => match z with | (n, k) => if (k == NameKind.free && env.scope.kind == .function && env.kindOf n == some .cell) = true then (n, NameKind.cell) else (n, k)).lookup y = some .cell ∨
      (names.map fun (z : Str × NameKind) => match z with | (n, k) => if (k == NameKind.free && env.scope.kind == .function && env.kindOf n == some .cell) = true then (n, NameKind.cell) else (n, k)).lookup y = some .free := by
    intro names
    induction names with
    | nil => intro h; cases h
    | cons z r ih =>
      obtain ⟨n, j⟩ := z
      intro h
      rw [List.lookup_cons] at h
      rw [List.map_cons, List.lookup_cons]
      by_cases hc : (j == NameKind.free && env.scope.kind == .function && env.kindOf n == some .cell) = true
      · simp only [hc, if_true]
        cases e : y == n with
        | true => exact .inl rfl
        | false => rw [e] at h; exact ih h
      · simp only [hc, Bool.false_eq_true, if_false]
        cases e : y == n with
        | true => rw [e] at h; exact .inr h
        | false => rw [e] at h; exact ih h
  exact .inr (key scope.names h)
theorem xA {scope : Scope} {env : PySem.Env} {y : Str} (h : scope.names.lookup y = some .local) : wz (relabel scope env) y := .inl (lookup_relabel_local h)
theorem vR {scope : Scope} {env : PySem.Env} {y : Str} (h : scope.names.lookup y = some .globalImplicit) : (relabel scope env).names.lookup y = some .globalImplicit := by
  unfold relabel
  have key : ∀ (names : List (Str × NameKind)), names.lookup y = some .globalImplicit →
      (names.map fun (z : Str × NameKind) => match z with | (n, k) => if (k == NameKind.free && env.scope.kind == .function && env.kindOf n == some .cell) = true then (n, NameKind.cell) else (n, k)).lookup y = some .globalImplicit := by
    intro names
    induction names with
    | nil => intro h; cases h
    | cons z r ih =>
      obtain ⟨n, j⟩ := z
      intro h
      rw [List.lookup_cons] at h
      rw [List.map_cons, List.lookup_cons]
      by_cases hc : (j == NameKind.free && env.scope.kind == .function && env.kindOf n == some .cell) = true
      · simp only [hc, if_true]
        cases e : y == n with
        | true =>
          rw [e] at h
          have h : j = .globalImplicit := Option.some.inj h
          rw [h] at hc
          simp at hc
        | false => rw [e] at h; exact ih h
      · simp only [hc, Bool.false_eq_true, if_false]
        cases e : y == n with
        | true => rw [e] at h; exact h
        | false => rw [e] at h; exact ih h
  exact key scope.names h
noncomputable def VB (sc : Scope) (N : List Str) (scope : Scope) (x : Str) : Bool :=
  decide (scope.kind = .function) && (decide (scope.names.lookup x = some .local) || decide (scope.names.lookup x = some .cell)) && scope.names.all (fun y => !decide (y.2 = .local) || decide (scope.names.lookup y.1 = some .local)) &&
  decide (scope.names.filter (fun y => y.2 == .cell) = if scope.names.lookup x = some .cell then [(x, .cell)] else []) &&
  scope.names.all (fun y => !decide (y.2 = .free) || (decide (sc.names.lookup y.1 = some .cell) || decide (sc.names.lookup y.1 = some .free))) && N.all (fun y => !decide (scope.names.lookup y = some .local) || decide (y = x)) &&
  decide (scope.names.lookup (jp x) = Option.none) && decide ((x :: xz x N).Nodup)
theorem ve {scope sc : Scope} {N : List Str} {x : Str} (hs : X.env.scope = sc) (hN : X.N = N) (h : VB sc N scope x = true) : CompSc X scope x := by
  subst hs hN
  simp only [VB, Bool.and_eq_true, decide_eq_true_eq, List.all_eq_true, Bool.or_eq_true, Bool.not_eq_true', decide_eq_false_iff_not] at h
  obtain ⟨⟨⟨⟨⟨⟨⟨h1, h2⟩, h3⟩, h4⟩, h5⟩, h6⟩, h7⟩, h8⟩ := h
  exact ⟨h1, h2, fun y hy e => (h3 y hy).resolve_left fun z => z e, h4, fun y hy e => (h5 y hy).resolve_left fun z => z e, fun y hy e => (h6 y hy).resolve_left fun z => z e, h7, h8⟩
noncomputable def zh8 (scope sc : Scope) : Scope :=
  { scope with names := scope.names.map fun (n, k) => if (k == .free && sc.kind == .function && sc.names.lookup n == some .cell) then (n, .cell) else (n, k) }
theorem zh9 {scope scope2 sc : Scope} {N : List Str} {x x2 : Str} {s₃ : Shared} {H₃ : Hp} {fp : List Addr} {pins : List (Addr × Obj)} (hs : X.env.scope = sc) (hN : X.N = N) (h : VB (zh8 scope sc) (x :: xz x N) scope2 x2 = true) : CompSc (zW X scope x s₃ H₃ fp pins) scope2 x2 := by
  subst hs hN
  exact ve rfl rfl h
end
end L2.LW
set_option maxHeartbeats 4000000
namespace L2.LW
open PySem PySem.Spec PyProof.Rows
section
variable {Pg : Program} {w : World} {K : PySem.W.Frag} {mg : Str → Option Value} {base : Heap} {f : Addr} {fd : FuncData} {ps : List Str} {P : Nat → Option Fn} {fuel i n k : Nat}
theorem zbr {io : List Nat} (h : ∀ ds, zR P fuel n i ds = Option.none) : FnOk Pg w K mg base xx k f fd ps (vc K (zR P fuel n) i io) := by
  have no : ∀ vs H Q E, ¬ vc K (zR P fuel n) i io vs H Q E := fun vs H Q E zz4 => by
    obtain ⟨W, ds, r, outs, _, _, e, _⟩ := zz4
    rw [h ds] at e; cases e
  exact ⟨fun vs H Q E z => absurd z (no vs H Q E), fun A outer s H args us vs Q E _ _ _ _ z => absurd z (no vs H Q E)⟩
theorem zia {io : List Nat} : FnOk Pg w K mg base xx k f fd ps (vc K (zR P fuel 0) i io) := zbr fun _ => rfl
theorem zH {io : List Nat} (h : P i = Option.none) : FnOk Pg w K mg base xx k f fd ps (vc K (zR P fuel (n + 1)) i io) := zbr fun ds => by rw [zR, h]; rfl
theorem zib {H : Hp} {a : Addr} {ns : List Int} {E : XK} (h : zG P fuel n i [.lst (ns.map D.int)] = some (.val (.bl true))) (hS : SqL K H a (ns.map V.int)) : vc K (zR P fuel n) i [] [.ref a] H (fun v _ => v = .bl true) E := by
  refine ⟨fun _ => False, [.lst (ns.map D.int)], .val (.bl true), [], fun _ z => z.elim, (Reps.cons (.lst ?_ (.ints ns)) .nil).get', za0 h, fun v H' _ _ r => ?_⟩
  · rcases hS with hS | hS
    · exact .inl ⟨fun z => z, hS⟩
    · exact .inr hS
  · cases r with
    | val r => cases r; rfl
end
end L2.LW
set_option maxHeartbeats 4000000
namespace L2.LW
open PySem PySem.Spec PyProof.Rows
section
variable {X : Cx} {fn : Nat → List D → Option SV} {fa : Nat → List D → Option Ans} {fuel : Nat} {a b c e : Expr} {ca cb cc ce : E} {es : List Expr} {cs : Es} {pos p : Pos} {x : Str} {st : Stmt} {sts : List Stmt} {s : S} {ss s1 s2 : Ss}
theorem zbs (t : Bool) : IE X fn (.Dict [] [] pos) (.dnew t) := by
  cases t with
  | false =>
    refine .mk (zan.imp fun σ H Q ⟨W, ρ, r, hR, he, q⟩ => ?_)
    simp only [zaA] at he; cases he
    exact fun p hp => q _ _ (yx hp _) (.new hp yf (.dK (ns := []) (ys := []) rfl .nil))
  | true =>
    refine .mk (zgq.imp fun σ H Q ⟨W, ρ, r, hR, he, q⟩ => ?_)
    simp only [zaA] at he; cases he
    exact fun p hp => q _ _ (yx hp _) (.new hp yf (.dT (ns := []) (ys := []) rfl .nil))
theorem zbt (i : Int) (v : V) : ∀ {ns : List Int} {ys : List V}, ns.length = ys.length → (zT ns ys).map (fun kv => if kv.1 = Sum.inl i then (kv.1, v) else kv) = zT ns (List.zipWith (fun n y => if n = i then v else y) ns ys)
  | [], [], _ => rfl
  | n :: ns, y :: ys, h => by
    have ih := zbt i v (ns := ns) (ys := ys) (by simpa using h)
    show (if (Sum.inl n : zn) = Sum.inl i then ((Sum.inl n : zn), v) else (Sum.inl n, y)) :: (zT ns ys).map _ = (Sum.inl n, if n = i then v else y) :: zT ns _
    rw [ih]
    by_cases e : n = i <;> simp [e]
theorem zbu (i : List Int) (v : V) : ∀ {ns : List (List Int)} {ys : List V}, ns.length = ys.length → (xh ns ys).map (fun kv => if kv.1 = i.map Sum.inl then (kv.1, v) else kv) = xh ns (List.zipWith (fun n y => if n = i then v else y) ns ys)
  | [], [], _ => rfl
  | n :: ns, y :: ys, h => by
    have ih := zbu i v (ns := ns) (ys := ys) (by simpa using h)
    show (if (n.map Sum.inl : List zn) = i.map Sum.inl then ((n.map Sum.inl : List zn), v) else (n.map Sum.inl, y)) :: (xh ns ys).map _ = (n.map Sum.inl, if n = i then v else y) :: xh ns _
    rw [ih]
    by_cases e : n = i
    · simp [e]
    · have : ¬ ((n.map Sum.inl : List zn) = i.map Sum.inl) := fun z => e (zaJ z)
      simp [e, this]
theorem zbv {K : PySem.W.Frag} {W : Addr → Prop} {H : Hp} {d : D} {v : V} (rv : Rep K W H d v) (i : Int) : ∀ {ns : List Int} {vs : List D} {ys : List V}, Reps K W H vs ys → Reps K W H (List.zipWith (fun k' v' => if zE k' (.int i) then d else v') (ns.map D.int) vs) (List.zipWith (fun n y => if n = i then v else y) ns ys)
  | [], _, _, _ => by simp; exact .nil
  | n :: ns, _, _, .nil => by simp; exact .nil
  | n :: ns, _, _, .cons h t => by
    have ih := zbv rv i (ns := ns) t
    simp only [List.map_cons, List.zipWith_cons_cons]
    refine .cons ?_ ih
    by_cases e : n = i
    · simp [e, zE]; exact rv
    · simp [e, zE]; exact h
theorem zbw {K : PySem.W.Frag} {W : Addr → Prop} {H : Hp} {d : D} {v : V} (rv : Rep K W H d v) (i : List Int) : ∀ {ns : List (List Int)} {vs : List D} {ys : List V}, Reps K W H vs ys → Reps K W H (List.zipWith (fun k' v' => if zE k' (kT i) then d else v') (ns.map kT) vs) (List.zipWith (fun n y => if n = i then v else y) ns ys)
  | [], _, _, _ => by simp; exact .nil
  | n :: ns, _, _, .nil => by simp; exact .nil
  | n :: ns, _, _, .cons h t => by
    have ih := zbw rv i (ns := ns) t
    simp only [List.map_cons, List.zipWith_cons_cons]
    refine .cons ?_ ih
    have : zE (kT n) (kT i) = decide (n = i) := by simp [kT, zE, Vl]
    rw [this]
    by_cases e : n = i
    · simp [e]; exact rv
    · simp [e]; exact h
theorem zic {K : PySem.W.Frag} {W : Addr → Prop} {H : Hp} {ns : List Int} {ys : List V} {vs : List D} {d : D} {v : V} (h : ns.length = ys.length) (r : Reps K W H vs ys) (i : Int) (rv : Rep K W H d v) :
    ORep K W H (wk false (ns.map D.int) vs (.int i) d) (.dK (yD (zT ns ys) (.inl i) v)) := by
  unfold yD wk
  rw [ZQ, zaM h]
  split
  · rw [zbt i v h]
    exact .dK (by simp [h]) (zbv rv i r)
  · have e : zT ns ys ++ [(Sum.inl i, v)] = zT (ns ++ [i]) (ys ++ [v]) := by
      unfold zT
      rw [List.map_append, List.zip_append (by simpa using h)]
      rfl
    rw [e]
    have := ORep.dK (K := K) (W := W) (H := H) (ns := ns ++ [i]) (ys := ys ++ [v]) (by simp [h]) (r.append (.cons rv .nil))
    rw [List.map_append] at this
    exact this
theorem zid {K : PySem.W.Frag} {W : Addr → Prop} {H : Hp} {ns : List (List Int)} {ys : List V} {vs : List D} {d : D} {v : V} (h : ns.length = ys.length) (r : Reps K W H vs ys) (i : List Int) (rv : Rep K W H d v) :
    ORep K W H (wk true (ns.map kT) vs (kT i) d) (.dT (yD (xh ns ys) (i.map Sum.inl) v)) := by
  unfold yD wk
  rw [ZQ, zaN h]
  split
  · rw [zbu i v h]
    exact .dT (by simp [h]) (zbw rv i r)
  · have e : xh ns ys ++ [(i.map Sum.inl, v)] = xh (ns ++ [i]) (ys ++ [v]) := by
      unfold xh
      rw [List.map_append, List.zip_append (by simpa using h)]
      rfl
    rw [e]
    have := ORep.dT (K := K) (W := W) (H := H) (ns := ns ++ [i]) (ys := ys ++ [v]) (by simp [h]) (r.append (.cons rv .nil))
    rw [List.map_append] at this
    exact this
theorem zbx {ns : List Int} {ys : List V} (h : ns.length = ys.length) : (zT ns ys).length = ns.length := by simp [zT, h]
theorem zie {ns : List (List Int)} {ys : List V} (h : ns.length = ys.length) : (xh ns ys).length = ns.length := by simp [xh, h]
theorem zby (i : Nat) {pos' : Pos} (hu : X.A.units + 64 < cLine) (hN : X.N[i]? = some x) (hv : wz X.env.scope x) (ha : IE X (zx fa) a ca) (hb : IE X (zx fa) b cb) (hd : (x == ("__debug__" : Str)) = false) (hcd : (x == ("__classdict__" : Str)) = false)
    (hs : swapsWith b (some (.Subscript (.Name x p) a pos')) pos.line X.env = pure false := by rfl) : IS X (zB fa fuel (.dset i ca cb)) (.Assign [.Subscript (.Name x p) a pos'] b pos) :=
  .mk <| (Qb (by omega) (yC hN hv hd hcd) ha.v hb.v hs).imp fun D0 σ H zz3 => by
    obtain ⟨W, ρ, y, hR, hy, q⟩ := zz3
    simp only [zaE] at hy
    split at hy
    · rename_i x h
      split at hy
      · rename_i t ks vs hc
        simp only [jo1] at hy
        obtain ⟨r, e1, d, e2, r', e3, d', e4, e5⟩ := hy
        split at e5
        · rename_i hk
          cases e5
          rw [Bool.and_eq_true, decide_eq_true_iff] at hk
          refine ⟨W, ρ, r, hR, e1, fun v H1 s1 f1 => ?_⟩
          have hR1 := hR.same s1
          obtain ⟨a, o, h1, h2, h3, h4⟩ := hR1.own i _ _ h hc
          refine ⟨_, h1, W, ρ, r', hR1, e3, fun v2 H2 s2 f2 => ?_⟩
          have rv := (f1.same s2).toD e2
          have rk := f2.toD e4
          have le := vz
          cases h4 with
          | dK l rp =>
            rename_i ns ys
            cases d' with
            | int n =>
              cases rk
              refine ⟨a, _, rfl, DPut.k (k := .inl n) (s2 _ _ h3) (by rw [zbx l]; simp at hk; omega), q W σ _ (QP hR h hc h1 (s1.trans s2) (s2 _ _ h3) ⟨fun _ z => (nomatch z), fun _ _ z => (nomatch z)⟩ (zic l (rp.ext (.same s2)) n rv))⟩
            | _ => simp [yF] at hk
          | dT l rp =>
            rename_i ns ys
            cases d' with
            | tup kl =>
              obtain ⟨ms, hms⟩ : ∃ ms, ints? kl = some ms := by have := hk.1; simp only [yF, Option.isSome_iff_exists] at this; exact this
              cases rk with
              | tup hb rpb =>
              have z1 := rpb.ofInts hms
              have z2 := Yk hms
              subst z1 z2
              refine ⟨a, _, rfl, DPut.t (k := ms.map Sum.inl) (s2 _ _ h3) (by rw [hb, QA]) (by rw [zie l]; simp at hk; omega), q W σ _ (QP hR h hc h1 (s1.trans s2) (s2 _ _ h3) ⟨fun _ z => (nomatch z), fun _ _ z => (nomatch z)⟩ (zid l (rp.ext (.same s2)) ms rv))⟩
            | _ => simp [yF] at hk
        · cases e5
      · cases hy
    · cases hy
end
end L2.LW
set_option maxHeartbeats 4000000
namespace L2.LW
open PySem PySem.Spec PyProof.Rows
inductive ArgOk (K : PySem.W.Frag) (ρ : LW.Env) (σ : St) (H H' : Hp) : AV → V → Prop where
  | e {d : D} {v : V} (h : ∀ W, Rep K W H' d v) : ArgOk K ρ σ H H' (.e d) v
  | l {ds : List D} {a : Addr} {xs : List V} (e : SqL K H' a xs ∧ Rd H' a (.lst xs) ∨ Yg K a xs) (r : ∀ W, Reps K W H' ds xs) : ArgOk K ρ σ H H' (.l ds) (.ref a)
  | s {i : Nat} {x : SV} {d : D} {a : Addr} (h : ρ[i]? = some (some x)) (c : x.cell = some d) (k : jW d = true) (e : σ[i]? = some (some (.ref a))) : ArgOk K ρ σ H H' (.s i d) (.ref a)
  | n {t : Bool} {a : Addr} {o : HO} (h : H a = Option.none) (e : H' a = some o) (r : ∀ W, ORep K W H' (.dct t [] []) o) : ArgOk K ρ σ H H' (.n t) (.ref a)
theorem ArgOk.same {K : PySem.W.Frag} {ρ : LW.Env} {σ : St} {H H' H'' : Hp} {x : AV} {v : V} (h : ArgOk K ρ σ H H' x v) (s : Same H' H'') : ArgOk K ρ σ H H'' x v := by
  cases h with
  | e h => exact .e fun W => (h W).ext (.same s)
  | l e r =>
    refine .l ?_ fun W => (r W).ext (.same s)
    rcases e with ⟨e1, e2⟩ | e
    · refine .inl ⟨s.seq e1, ?_⟩
      rcases e2 with e2 | ⟨o, e2⟩
      · exact .inl (s _ _ e2)
      · exact .inr ⟨o, s _ _ e2⟩
    · exact .inr e
  | s h c k e => exact .s h c k e
  | n h e r => exact .n h (s _ _ e) fun W => (r W).ext (.same s)
theorem ArgOk.back {K : PySem.W.Frag} {ρ : LW.Env} {σ : St} {H H' H'' : Hp} {x : AV} {v : V} (h : ArgOk K ρ σ H' H'' x v) (s : Same H H') : ArgOk K ρ σ H H'' x v := by
  cases h with
  | e h => exact .e h
  | l e r => exact .l e r
  | s h c k e => exact .s h c k e
  | n h e r => exact .n (s.free h) e r
inductive OutsX (K : PySem.W.Frag) (W : Addr → Prop) (H : Hp) : List AV → List V → List D → Prop where
  | nil : OutsX K W H [] [] []
  | e {d : D} {v : V} {xs : List AV} {vs : List V} {os : List D} (t : OutsX K W H xs vs os) : OutsX K W H (.e d :: xs) (v :: vs) os
  | l {d : List D} {v : V} {xs : List AV} {vs : List V} {os : List D} (t : OutsX K W H xs vs os) : OutsX K W H (.l d :: xs) (v :: vs) os
  | s {i : Nat} {d : D} {a : Addr} {o : HO} {d' : D} {xs : List AV} {vs : List V} {os : List D} (e : H a = some o) (r : ORep K W H d' o) (t : OutsX K W H xs vs os) : OutsX K W H (.s i d :: xs) (.ref a :: vs) (d' :: os)
  | n {b : Bool} {v : V} {d' : D} {xs : List AV} {vs : List V} {os : List D} (t : OutsX K W H xs vs os) : OutsX K W H (.n b :: xs) (v :: vs) (d' :: os)
section
variable {X : Cx} {fn : Nat → List D → Option SV} {fa : Nat → List D → Option Ans} {fuel : Nat} {a b c e : Expr} {ca cb cc ce : E} {es : List Expr} {cs : Es} {ma : MA} {m : M} {pos p : Pos} {x : Str} {st : Stmt} {sts sts' : List Stmt} {s : S} {ss s1 s2 : Ss}
theorem OutsX.plain {K : PySem.W.Frag} {W W' : Addr → Prop} {H : Hp} {xs : List AV} {vs : List V} {os : List D} (h : OutsX K W H xs vs os) (p : os.all xQ = true) : OutsX K W' H xs vs os := by
  induction h with
  | nil => exact .nil
  | e _ ih => exact .e (ih p)
  | l _ ih => exact .l (ih p)
  | s e r _ ih =>
    simp only [List.all_cons, Bool.and_eq_true] at p
    exact .s e (r.plain p.1) (ih p.2)
  | n _ ih =>
    simp only [List.all_cons, Bool.and_eq_true] at p
    exact .n (ih p.2)
theorem Res.fine {K : PySem.W.Frag} {W W' : Addr → Prop} {H H' : Hp} {r : SV} {v : V} (h : Res K W' H H' r v) (p : r.fine = true) : Res K W H H' r v := by
  cases h with
  | val h => exact .val (h.plain p)
  | new h e r => exact .new h e (r.plain p)
  | see h e r => cases p
theorem SPost.wf' {K : PySem.W.Frag} {W W' : Addr → Prop} {ρ ρ' : LW.Env} {σ σ' : St} {H H' : Hp} (p : SPost K W ρ σ H W' ρ' σ' H') : Wf W' H' := p.r.wf
end
end L2.LW
set_option maxHeartbeats 4000000
namespace L2.LW
open PySem PySem.Spec PyProof.Rows
noncomputable def zif (sc scope : Scope) (y : Str) (l1 l2 : Nat) : Bool := (if sc.kind.isAnnotationScope then ScopeKind.function else sc.kind) == .function && sc.names.lookup y == some .local && l1 == l2 && !(scope.names.any fun (n, k) => n == y && (k == .local || k == .cell))
theorem VC {env : PySem.Env} {sc scope : Scope} {elt : Expr} {gens : List Comprehension} {y : Str} {py pos : Pos} {l : Nat} {b : Bool} (hs : env.scope = sc) (h : zif sc scope y py.line pos.line = b) :
    swapsWith (.ListComp elt gens scope pos) (some (.Name y py)) l env = pure b := by
  subst hs; subst h; rfl
theorem zig {K : PySem.W.Frag} {W : Addr → Prop} {ρ : LW.Env} {σ : St} {H : Hp} (r : R K W ρ σ H) (j : Nat) : ∃ W', SPost K W ρ σ H W' (vN ρ j) σ H := by
  unfold vN
  split
  · rename_i d h
    obtain ⟨a, o, h1, _⟩ := r.own j _ d h rfl
    exact ⟨_, (zhO r h h1).1⟩
  · exact ⟨W, .same r (.refl H)⟩
theorem zbz {K : PySem.W.Frag} {σ : St} {H : Hp} : ∀ (js : List Nat) {W : Addr → Prop} {ρ : LW.Env}, R K W ρ σ H → ∃ W', SPost K W ρ σ H W' (js.foldl vN ρ) σ H
  | [], W, ρ, r => ⟨W, .same r (.refl H)⟩
  | j :: js, W, ρ, r => by
    obtain ⟨W1, p1⟩ := zig r j
    obtain ⟨W2, p2⟩ := zbz js p1.r
    exact ⟨W2, p1.trans p2 r⟩
section
variable {X : Cx} {fn : Nat → List D → Option SV} {fa : Nat → List D → Option Ans} {fuel : Nat} {st : Stmt} {s : S}
theorem zih (js : List Nat) (h : IS X (zB fa fuel s) st) : IS X (zB fa fuel (.frz js s)) st :=
  .mk <| h.h.imp fun D σ H zz3 => by
    obtain ⟨W, ρ, x, hR, hx, q⟩ := zz3
    simp only [zhn] at hx
    obtain ⟨W1, p1⟩ := zbz js hR
    exact ⟨W1, _, x, p1.r, hx, fun W2 σ2 H2 p2 => FlOk.back p1 (q W2 σ2 H2 (p1.trans p2 hR))⟩
theorem zii {its : List Value} {ns : List Int} (hi : IntsAre its ns) : ∃ ps : List (Int × Tok), its = ps.map (fun p => Value.int p.1 p.2) ∧ ns = ps.map (·.1) := by
  induction hi with
  | nil => exact ⟨[], rfl, rfl⟩
  | cons n t h ih =>
    obtain ⟨ps, e1, e2⟩ := ih
    exact ⟨(n, t) :: ps, by rw [e1]; rfl, by rw [e2]; rfl⟩
theorem zbA {its : List Value} {ns : List Int} (hi : IntsAre its ns) : ∃ xs : Array (Int × Tok), its.toArray = intItems xs ∧ xs.size = ns.length ∧ ∀ i, (h : i < ns.length) → numAt xs i = ns[i] := by
  obtain ⟨ps, rfl, rfl⟩ := zii hi
  refine ⟨ps.toArray, by simp [intItems], by simp, fun i h => ?_⟩
  have h' : i < ps.length := by simpa using h
  simp [numAt, h']
end
end L2.LW
set_option maxHeartbeats 4000000
namespace L2.LW
open PySem PySem.W PyProof.Rows
section
variable {n : Nat} {r : Nat → Int} {cmp : Nat → Nat → (Bool → Shared → Prop) → Shared → Prop} {I : Shared → Prop}
noncomputable def kk (r : Nat → Int) (p : Array Nat) (i : Nat) : Int := r (p.getD i 0)
structure Pm (n : Nat) (r : Nat → Int) (p : Array Nat) : Prop where
  perm : p.Perm (List.range n).toArray
  size : p.size = n
  lt : ∀ i, i < n → p.getD i 0 < n
  inj : ∀ i j, i < n → j < n → i ≠ j → kk r p i ≠ kk r p j
theorem Pm.of {p : Array Nat} (hr : ∀ i j, i < n → j < n → i ≠ j → r i ≠ r j) (h : p.Perm (List.range n).toArray) : Pm n r p := by
  have hs : p.size = n := by have := h.size_eq; simpa using this
  have hl : p.toList.Perm (List.range n) := Array.perm_iff_toList_perm.mp h
  have hlt : ∀ i, i < n → p.getD i 0 < n := fun i hi => by
    have hi' : i < p.size := by omega
    have : p[i] ∈ p.toList := by simp
    have := hl.mem_iff.mp this
    rw [List.mem_range] at this
    simpa [Array.getD, hi'] using this
  have hnd : p.toList.Nodup := hl.nodup_iff.mpr List.nodup_range
  refine ⟨h, hs, hlt, fun i j hi hj ne => hr _ _ (hlt i hi) (hlt j hj) fun e => ne ?_⟩
  have hi' : i < p.size := by omega
  have hj' : j < p.size := by omega
  simp only [Array.getD, hi', hj', dif_pos] at e
  have e' : p.toList[i]'(by simpa using hi') = p.toList[j]'(by simpa using hj') := by simpa using e
  exact (List.getElem_inj hnd).mp e'
noncomputable def Up (r : Nat → Int) (p : Array Nat) (k : Nat) : Prop := ∀ i j, i < j → j < k → kk r p i < kk r p j
noncomputable def Dn (r : Nat → Int) (p : Array Nat) (k : Nat) : Prop := ∀ i j, i < j → j < k → kk r p j < kk r p i
theorem Up.one {p : Array Nat} {k : Nat} (h : k ≤ 1) : Up r p k := fun i j h1 h2 => by omega
theorem Dn.one {p : Array Nat} {k : Nat} (h : k ≤ 1) : Dn r p k := fun i j h1 h2 => by omega
theorem Up.next {p : Array Nat} {k : Nat} (h : Up r p k) (hk : 1 ≤ k) (e : kk r p (k - 1) < kk r p k) : Up r p (k + 1) := fun i j h1 h2 => by
  by_cases hj : j = k
  · subst hj
    by_cases hi : i = j - 1
    · rw [hi]; exact e
    · exact Int.lt_trans (h i (j - 1) (by omega) (by omega)) e
  · exact h i j h1 (by omega)
theorem Dn.next {p : Array Nat} {k : Nat} (h : Dn r p k) (hk : 1 ≤ k) (e : kk r p k < kk r p (k - 1)) : Dn r p (k + 1) := fun i j h1 h2 => by
  by_cases hj : j = k
  · subst hj
    by_cases hi : i = j - 1
    · rw [hi]; exact e
    · exact Int.lt_trans e (h i (j - 1) (by omega) (by omega))
  · exact h i j h1 (by omega)
theorem Pm.lt' {p : Array Nat} (P : Pm n r p) {i j : Nat} (hi : i < n) (hj : j < n) (ne : i ≠ j) (h : ¬ kk r p i < kk r p j) : kk r p j < kk r p i := by
  have := P.inj i j hi hj ne
  omega
variable (hc : ∀ i j C s, i < n → j < n → I s → (∀ s', I s' → C (decide (r i < r j)) s') → cmp i j C s)
include hc
theorem QY {p : Array Nat} (P : Pm n r p) {Q : Nat → Shared → Prop} : ∀ (f m : Nat) (s : Shared), 1 ≤ m → m + f = n → I s → Up r p m → (∀ k s', I s' → m ≤ k → k ≤ n → Up r p k → (k = n ∨ kk r p k < kk r p (k - 1)) → (k = m ∨ kk r p m > kk r p (m - 1)) → Q k s') → (kas_asc p f m).kasWp cmp Q s
  | 0, m, s, h1, h2, hI, hu, q => q m s hI (Nat.le_refl _) (by omega) hu (.inl (by omega)) (.inl rfl)
  | f + 1, m, s, h1, h2, hI, hu, q => by
    refine hc _ _ _ s (P.lt m (by omega)) (P.lt (m - 1) (by omega)) hI fun s' hI' => ?_
    by_cases h : kk r p m < kk r p (m - 1)
    · have e : decide (r (p.getD m 0) < r (p.getD (m - 1) 0)) = true := decide_eq_true h
      simp only [e, if_true]
      exact q m s' hI' (Nat.le_refl _) (by omega) hu (.inr h) (.inl rfl)
    · have e : decide (r (p.getD m 0) < r (p.getD (m - 1) 0)) = false := decide_eq_false h
      simp only [e, Bool.false_eq_true, if_false]
      have hlt := P.lt' (by omega) (by omega) (by omega) h
      exact QY P f (m + 1) s' (by omega) (by omega) hI' (hu.next h1 hlt) fun k s'' hs h3 h4 h5 h6 _ => q k s'' hs (by omega) h4 h5 h6 (.inr hlt)
theorem zbB {p : Array Nat} (P : Pm n r p) {Q : Array Nat × Nat × Nat → Shared → Prop} : ∀ (f m : Nat) (s : Shared), 1 ≤ m → m + f = n → I s → Dn r p m → (∀ k s', I s' → m ≤ k → k ≤ n → Dn r p k → Q (p, k, 0) s') → (kas_desc f p m 0).kasWp cmp Q s
  | 0, m, s, h1, h2, hI, hu, q => q m s hI (Nat.le_refl _) (by omega) hu
  | f + 1, m, s, h1, h2, hI, hu, q => by
    refine hc _ _ _ s (P.lt m (by omega)) (P.lt (m - 1) (by omega)) hI fun s' hI' => ?_
    by_cases h : kk r p m < kk r p (m - 1)
    · have e : decide (r (p.getD m 0) < r (p.getD (m - 1) 0)) = true := decide_eq_true h
      simp only [e, if_true, Nat.lt_irrefl, if_false, gt_iff_lt]
      exact zbB P f (m + 1) s' (by omega) (by omega) hI' (hu.next h1 h) fun k s'' hs h3 h4 h5 => q k s'' hs (by omega) h4 h5
    · have e : decide (r (p.getD m 0) < r (p.getD (m - 1) 0)) = false := decide_eq_false h
      simp only [e, Bool.false_eq_true, if_false]
      have hlt := P.lt' (by omega) (by omega) (by omega) h
      refine hc _ _ _ s' (P.lt (m - 1) (by omega)) (P.lt m (by omega)) hI' fun s'' hI'' => ?_
      have e2 : decide (r (p.getD (m - 1) 0) < r (p.getD m 0)) = true := decide_eq_true hlt
      simp only [e2, if_true]
      exact q m s'' hI'' (Nat.le_refl _) (by omega) hu
omit hc in
theorem Pm.rev {p : Array Nat} (hr : ∀ i j, i < n → j < n → i ≠ j → r i ≠ r j) (P : Pm n r p) (i j : Nat) : Pm n r (kas_rev p i j) := Pm.of hr ((mirror_perm p i j _).trans P.perm)
omit hc in
theorem zbC {p : Array Nat} {m k : Nat} (hm : m ≤ p.size) : kk r (kas_rev p 0 m) k = if k < m then kk r p (m - 1 - k) else kk r p k := by
  have e := getElem?_mirror_all (i := 0) hm k
  simp only [Nat.zero_le, true_and, Nat.zero_add] at e
  by_cases h : k < m
  · rw [if_pos h] at e ⊢
    simp only [kk, kas_rev, Array.getD_eq_getD_getElem?, e]
  · rw [if_neg h] at e ⊢
    simp only [kk, kas_rev, Array.getD_eq_getD_getElem?, e]
omit hc in
theorem Dn.rev {p : Array Nat} {m : Nat} (hm : m ≤ p.size) (h : Dn r p m) : Up r (kas_rev p 0 m) m := fun i j h1 h2 => by
  rw [zbC hm, zbC hm, if_pos (by omega), if_pos h2]
  exact h _ _ (by omega) (by omega)
theorem zij (hr : ∀ i j, i < n → j < n → i ≠ j → r i ≠ r j) {p : Array Nat} (P : Pm n r p) {m : Nat} {s : Shared} {Q : Nat × Array Nat → Shared → Prop} (h1 : 1 ≤ m) (h2 : m ≤ n) (hI : I s) (hd : Dn r p m)
    (q : ∀ k p' s', I s' → k ≤ n → 1 ≤ k → Pm n r p' → Up r p' k → Q (k, p') s') : (kas_tail3 m n p).kasWp cmp Q s := by
  unfold kas_tail3
  rw [KasT.kasWp_bind]
  have P' := P.rev hr 0 m
  refine QY hc P' (n - m) m s h1 (by omega) hI (hd.rev (by rw [P.size]; exact h2)) fun k s' hs h3 h4 h5 _ _ => ?_
  exact q k _ s' hs h4 (by omega) P' h5
theorem zik (hr : ∀ i j, i < n → j < n → i ≠ j → r i ≠ r j) {p : Array Nat} (P : Pm n r p) {s : Shared} {Q : Nat × Array Nat → Shared → Prop} (h2 : 2 ≤ n) (hI : I s) (hd : kk r p 1 < kk r p 0)
    (q : ∀ k p' s', I s' → k ≤ n → 1 ≤ k → Pm n r p' → Up r p' k → Q (k, p') s') : (kas_descPart 1 n p).kasWp cmp Q s := by
  unfold kas_descPart
  rw [KasT.kasWp_bind]
  refine zbB hc P (n - 2) 2 s (by omega) (by omega) hI ((Dn.one (k := 1) (Nat.le_refl _)).next (Nat.le_refl _) hd) fun k s' hs h3 h4 h5 => ?_
  simp only [Nat.lt_irrefl, if_false, gt_iff_lt]
  exact zij hc hr P (by omega) h4 hs h5 q
theorem zil (hr : ∀ i j, i < n → j < n → i ≠ j → r i ≠ r j) {p : Array Nat} (P : Pm n r p) {s : Shared} {Q : Nat × Array Nat → Shared → Prop} (h2 : 2 ≤ n) (hI : I s)
    (q : ∀ k p' s', I s' → k ≤ n → 1 ≤ k → Pm n r p' → Up r p' k → Q (k, p') s') : (kas_count n p).kasWp cmp Q s := by
  unfold kas_count
  rw [KasT.kasWp_bind]
  refine QY hc P (n - 1) 1 s (Nat.le_refl _) (by omega) hI (Up.one (Nat.le_refl _)) fun k s' hs h3 h4 h5 h6 h7 => ?_
  by_cases hk : k = n
  · subst hk
    simp only [beq_self_eq_true, if_true]
    exact q _ p s' hs (Nat.le_refl _) h3 P h5
  · have e : (k == n) = false := by simpa using hk
    simp only [e, Bool.false_eq_true, if_false]
    by_cases h1 : k > 1
    · simp only [h1, if_true]
      refine hc _ _ _ s' (P.lt 0 (by omega)) (P.lt (k - 1) (by omega)) hs fun s'' hs' => ?_
      have e2 : decide (r (p.getD 0 0) < r (p.getD (k - 1) 0)) = true := decide_eq_true (h5 0 (k - 1) (by omega) (by omega))
      simp only [e2, if_true]
      exact q _ p s'' hs' h4 h3 P h5
    · have ek : k = 1 := by omega
      subst ek
      simp only [Nat.lt_irrefl, if_false, gt_iff_lt]
      exact zik hc hr P h2 hs (h6.resolve_left hk) q
theorem QZ {p : Array Nat} (P : Pm n r p) {k : Nat} (hk : k < n) {Q : Nat → Shared → Prop} : ∀ (f l h : Nat) (s : Shared), h - l ≤ f → l ≤ h → h ≤ k → I s → (∀ i, i < l → kk r p i < kk r p k) → (∀ i, h ≤ i → i < k → kk r p k < kk r p i) → Up r p k →
    (∀ l s', I s' → l ≤ k → (∀ i, i < l → kk r p i < kk r p k) → (∀ i, l ≤ i → i < k → kk r p k < kk r p i) → Q l s') → (kas_place p k f l h).kasWp cmp Q s
  | 0, l, h, s, hf, h1, h2, hI, hl, hh, hu, q => q l s hI (by omega) hl fun i h3 h4 => hh i (by omega) h4
  | f + 1, l, h, s, hf, h1, h2, hI, hl, hh, hu, q => by
    unfold kas_place
    by_cases hge : l ≥ h
    · rw [if_pos hge]
      exact q l s hI (by omega) hl fun i h3 h4 => hh i (by omega) h4
    · rw [if_neg hge]
      refine hc _ _ _ s (P.lt k hk) (P.lt _ (by omega)) hI fun s' hI' => ?_
      by_cases hm : kk r p k < kk r p ((l + h) / 2)
      · have e : decide (r (p.getD k 0) < r (p.getD ((l + h) / 2) 0)) = true := decide_eq_true hm
        simp only [e, if_true]
        refine QZ P hk f l ((l + h) / 2) s' (by omega) (by omega) (by omega) hI' hl (fun i h3 h4 => ?_) hu q
        by_cases hi : i = (l + h) / 2
        · rw [hi]; exact hm
        · exact Int.lt_trans hm (hu _ _ (by omega) h4)
      · have e : decide (r (p.getD k 0) < r (p.getD ((l + h) / 2) 0)) = false := decide_eq_false hm
        simp only [e, Bool.false_eq_true, if_false]
        have hlt := P.lt' hk (by omega) (by omega) hm
        refine QZ P hk f ((l + h) / 2 + 1) h s' (by omega) (by omega) h2 hI' (fun i h3 => ?_) hh hu q
        by_cases hi : i = (l + h) / 2
        · rw [hi]; exact hlt
        · exact Int.lt_trans (hu i ((l + h) / 2) (by omega) (by omega)) hlt
omit hc in
theorem zbD {p : Array Nat} {k d : Nat} (hk : k < p.size) (hd : d ≤ k) (i : Nat) : kk r (bubble p k d) i = if i = k - d then kk r p k else if k - d < i ∧ i ≤ k then kk r p (i - 1) else kk r p i := by
  have e := getElem?_bubble hk d hd i
  by_cases h : i = k - d
  · rw [if_pos h] at e ⊢
    simp only [kk, Array.getD_eq_getD_getElem?, e]
  · rw [if_neg h] at e ⊢
    by_cases h' : k - d < i ∧ i ≤ k
    · rw [if_pos h'] at e ⊢
      simp only [kk, Array.getD_eq_getD_getElem?, e]
    · rw [if_neg h'] at e ⊢
      simp only [kk, Array.getD_eq_getD_getElem?, e]
theorem zbE (hr : ∀ i j, i < n → j < n → i ≠ j → r i ≠ r j) {Q : Array Nat → Shared → Prop} : ∀ (f : Nat) (p : Array Nat) (k : Nat) (s : Shared), 1 ≤ k → k + f = n → Pm n r p → I s → Up r p k → (∀ p' s', I s' → Pm n r p' → Up r p' n → Q p' s') → (kas_bin f p k).kasWp cmp Q s
  | 0, p, k, s, h1, h2, P, hI, hu, q => q p s hI P (by rw [← h2]; exact hu)
  | f + 1, p, k, s, h1, h2, P, hI, hu, q => by
    unfold kas_bin
    rw [KasT.kasWp_bind]
    have hk : k < n := by omega
    refine QZ hc P hk k 0 k s (by omega) (Nat.zero_le _) (Nat.le_refl _) hI (fun i h => by omega) (fun i h3 h4 => by omega) hu fun l s' hI' hl h3 h4 => ?_
    have hks : k < p.size := by rw [P.size]; exact hk
    have P' : Pm n r (bubble p k (k - l)) := Pm.of hr ((bubble_perm p k _).trans P.perm)
    refine zbE hr f _ (k + 1) s' (by omega) (by omega) P' hI' (fun i j hij hj => ?_) q
    rw [zbD hks (by omega), zbD hks (by omega)]
    have ekl : k - (k - l) = l := by omega
    rw [ekl]
    by_cases hi : i = l
    · rw [if_pos hi, if_neg (by omega)]
      rw [if_pos (by omega)]
      exact h4 _ (by omega) (by omega)
    · rw [if_neg hi]
      by_cases hjl : j = l
      · rw [if_pos hjl, if_neg (by omega)]
        exact h3 i (by omega)
      · rw [if_neg hjl]
        by_cases hi2 : l < i ∧ i ≤ k
        · rw [if_pos hi2, if_pos (by omega)]
          exact hu _ _ (by omega) (by omega)
        · rw [if_neg hi2]
          by_cases hj2 : l < j ∧ j ≤ k
          · rw [if_pos hj2]
            by_cases he : i = j - 1
            · omega
            · exact hu _ _ (by omega) (by omega)
          · rw [if_neg hj2]
            exact hu _ _ (by omega) (by omega)
theorem zim (hr : ∀ i j, i < n → j < n → i ≠ j → r i ≠ r j) {s : Shared} {Q : Array Nat → Shared → Prop} (h2 : 2 ≤ n) (hI : I s) (q : ∀ p s', I s' → Pm n r p → Up r p n → Q p s') : (kas_sort n).kasWp cmp Q s := by
  unfold kas_sort
  rw [KasT.kasWp_bind]
  have P0 : Pm n r (List.toArray (List.range n)) := Pm.of hr (Array.Perm.refl _)
  refine zil hc hr P0 h2 hI fun k p s' hI' hk h1 P hu => ?_
  by_cases hlt : k < n
  · simp only [hlt, if_true]
    have e : max k 1 = k := by omega
    rw [e]
    exact zbE hc hr (n - k) p k s' h1 (by omega) P hI' hu q
  · simp only [hlt, if_false]
    have e : k = n := by omega
    exact q p s' hI' P (by rw [← e]; exact hu)
end
end L2.LW
set_option maxHeartbeats 4000000
namespace L2.LW
open PySem PySem.Spec PySem.W PyProof.Rows
section
variable {prog : Program} {w : World} {A : Around} {E : Value → Shared → Prop} {s : Shared}
theorem zin {a : Addr} {vs : List Value} {n : Nat} {P : PySem.Fin → Shared → Prop} {κ : SortKind} (ho : s.heap.get? a = some (seqObj "list" vs.toArray n)) (h64 : vs.length < 64) {r : Nat → Int} (hr : ∀ i j, i < vs.length → j < vs.length → i ≠ j → r i ≠ r j)
    (hk : 2 ≤ vs.length → ∀ h' tk, (∀ b o, b ≠ a → s.heap.get? b = some o → h'.get? b = some o) → wpAny (model prog w) A (keyKind' vs.toArray) (fun κ' s' => κ' = κ ∧ ∃ tk', s' = { s with heap := h', toks := tk' }) (fun _ _ => False) { s with heap := h', toks := tk })
    (hc : ∀ i j h' tk (C : Bool → Shared → Prop), i < vs.length → j < vs.length → (∀ b o, b ≠ a → s.heap.get? b = some o → h'.get? b = some o) → (∀ tk', C (decide (r i < r j)) { s with heap := h', toks := tk' }) →
      wpAny (model prog w) A (keyLt' κ (vs.getD i Value.none) (vs.getD j Value.none)) C (fun _ _ => False) { s with heap := h', toks := tk })
    (h : ∀ p tk, Pm vs.length r p → Up r p vs.length → P (.done (.ret .none)) { s with heap := sortedHeap s.heap a vs (p.toList.map fun i => vs.getD i Value.none).toArray, toks := tk }) :
    wpAny (model prog w) A (Builtin.«list.sort» ⟨[.ref a], []⟩) P E s := by
  rw [list_sort_plain]
  have ha : a < s.heap.objs.size := Heap.lt_size ho
  refine wpAny_bind (listItems_at ho rfl ?_)
  refine wpAny_bind (listUpdate_at ho rfl ?_ (by rw [List.size_toArray, sizeLine_eq]; omega) (Nat.zero_le _))
  obtain ⟨e1, ho1⟩ : ∃ e1, (s.heap.update a (Obj.mapSeq fun _ => #[])).get? a = some (seqObj "list" #[] e1) := ⟨_, get?_update_seq ho (fun _ => #[])⟩
  refine wpAny_bind (seqEpoch_at ho1 rfl ?_)
  refine wpAny_bind (wpAny_newTuple ?_ (by show vs.length ≤ _; rw [sizeLine_eq]; omega))
  refine wpAny_bind (wpAny_newList ?_ (Nat.zero_le _))
  refine wpAny_holding ?_
  have ho6 : (((s.heap.update a (Obj.mapSeq fun _ => #[])).push (seqObj "tuple" vs.toArray 0)).push (seqObj "list" #[] 0)).get? a = some (seqObj "list" #[] e1) := by
    rw [Heap.get?_push_ne _ _ _ (by rw [size_push', Heap.size_update]; exact Nat.ne_of_lt (Nat.lt_succ_of_lt ha)), Heap.get?_push_ne _ _ _ (by rw [Heap.size_update]; exact Nat.ne_of_lt ha)]
    exact ho1
  have keep : ∀ b o, b ≠ a → s.heap.get? b = some o → (((s.heap.update a (Obj.mapSeq fun _ => #[])).push (seqObj "tuple" vs.toArray 0)).push (seqObj "list" #[] 0)).get? b = some o := fun b o hb e =>
    Heap.get?_push_of_some _ (Heap.get?_push_of_some _ (by rw [Heap.get?_update_ne _ _ _ _ hb]; exact e))
  show wpAny (model prog w) A _ P E { s with heap := ((s.heap.update a (Obj.mapSeq fun _ => #[])).push (seqObj "tuple" vs.toArray 0)).push (seqObj "list" #[] 0) }
  dsimp only
  have hsz : vs.toArray.size = vs.length := by simp
  have jp : Pm vs.length r (List.range vs.length).toArray := Pm.of hr (Array.Perm.refl _)
  by_cases h2 : vs.toArray.size < 2
  · rw [if_pos h2, if_pos h2]
    refine wpAny_bind (wpAny_pure ?_)
    rw [StateT.run_pure]
    refine wpAny_bind (wpAny_pure ?_)
    dsimp only
    refine wpAny_bind (seqEpoch_at ho6 rfl ?_)
    refine wpAny_bind (listUpdate_at ho6 rfl ?_ (Nat.zero_le _) (by rw [Array.size_map]; show (pairsOf vs).size ≤ _; rw [pairsOf_size, sizeLine_eq]; omega))
    simp only [bne_self_eq_false, Bool.false_eq_true, if_false]
    have hh := h (List.range vs.length).toArray s.toks jp (Up.one (by omega))
    have e : ((List.range vs.length).toArray.toList.map fun i => vs.getD i Value.none).toArray = (arrOf (SortSt.mk' general' (vs.toArray.zip vs.toArray) #[] 7 none)).map (·.2) := by
      show _ = (vs.toArray.zip vs.toArray).map (·.2)
      apply Array.toList_inj.mp
      simp
      apply List.ext_getElem
      · simp
      · intro i h1 h2; simp at h1; simp [h1]
    rw [e] at hh
    exact wpAny_pure hh
  · rw [if_neg h2, if_neg h2]
    rw [hsz] at h2
    have h2' : 2 ≤ vs.length := by omega
    refine wpAny_bind (wpAny_mono (hk h2' _ s.toks keep) (fun κ' s0 ⟨hκ, tk0, hs0⟩ => ?_) fun _ _ x => x.elim)
    subst hκ hs0
    refine wpAny_bind (wpAny_mono (kat_run (ks := vs) (Q := fun st' s' => ∃ (p : Array Nat) (tk : Nat), Pm vs.length r p ∧ Up r p vs.length ∧ arrOf st' = p.map (kas_item (vs.toArray.zip vs.toArray)) ∧ failedOf st' = Option.none ∧
        s' = { s with heap := ((s.heap.update a (Obj.mapSeq fun _ => #[])).push (seqObj "tuple" vs.toArray 0)).push (seqObj "list" #[] 0), toks := tk })
      (G := fun p s' => ∃ tk, Pm vs.length r p ∧ Up r p vs.length ∧ s' = { s with heap := ((s.heap.update a (Obj.mapSeq fun _ => #[])).push (seqObj "tuple" vs.toArray 0)).push (seqObj "list" #[] 0), toks := tk })
      rfl h2' h64 (fun p st' s' a1 a2 a3 ⟨tk, a4, a5, a6⟩ => ⟨p, tk, a4, a5, a2, a3, a6⟩) ?_) ?_ fun _ _ e => e)
    · exact zim (I := fun s' => ∃ tk, s' = { s with heap := ((s.heap.update a (Obj.mapSeq fun _ => #[])).push (seqObj "tuple" vs.toArray 0)).push (seqObj "list" #[] 0), toks := tk })
        (fun i j C s' hi hj zz6 q => by
          obtain ⟨tk, hs'⟩ := zz6
          subst hs'
          exact hc i j _ tk C hi hj keep fun tk' => q _ ⟨tk', rfl⟩) hr h2' ⟨tk0, rfl⟩ fun p s' ⟨tk, hs'⟩ hp hu => ⟨tk, hp, hu, hs'⟩
    · rintro ⟨⟨⟩, st'⟩ s' ⟨p, tk, hp, hu, har, hf, rfl⟩
      dsimp only
      have hout := kat_snds (ks := vs) (vs := vs) rfl har
      rw [hout]
      refine wpAny_bind (seqEpoch_at ho6 rfl ?_)
      refine wpAny_bind (listUpdate_at ho6 rfl ?_ (Nat.zero_le _) (by rw [List.size_toArray, List.length_map, Array.length_toList, hp.size, sizeLine_eq]; omega))
      rw [hf]
      simp only [bne_self_eq_false, Bool.false_eq_true, if_false]
      exact wpAny_pure (h p tk hp hu)
theorem zio {l : Addr} {vs : List Value} {Q : Value → Shared → Prop} {κ : SortKind} (hl : s.heap.IsList l vs.toArray) (h64 : vs.length < 64) {r : Nat → Int} (hr : ∀ i j, i < vs.length → j < vs.length → i ≠ j → r i ≠ r j)
    (hk : 2 ≤ vs.length → ∀ h' tk, (∀ b o, s.heap.get? b = some o → h'.get? b = some o) → wpAny (model prog w) A.in1.in1 (keyKind' vs.toArray) (fun κ' s' => κ' = κ ∧ ∃ tk', s' = { s with heap := h', toks := tk' }) (fun _ _ => False) { s with heap := h', toks := tk })
    (hc : ∀ i j h' tk (C : Bool → Shared → Prop), i < vs.length → j < vs.length → (∀ b o, s.heap.get? b = some o → h'.get? b = some o) → (∀ tk', C (decide (r i < r j)) { s with heap := h', toks := tk' }) →
      wpAny (model prog w) A.in1.in1 (keyLt' κ (vs.getD i Value.none) (vs.getD j Value.none)) C (fun _ _ => False) { s with heap := h', toks := tk })
    (h : ∀ p tk, Pm vs.length r p → Up r p vs.length → Q (.ref (s.heap.objs.size + 1)) { s with heap := sortedAll s.heap vs (p.toList.map fun i => vs.getD i Value.none).toArray, toks := tk }) :
    wpAny (model prog w) A (call (.builtin "sorted") [.ref l]) Q E s := by
  refine Calls.call_function_entry kind_sorted plain_sorted entry_sorted (args_sorted1 _) ?_
  unfold Builtin.«sorted»
  refine wpAny_bind (m := checkCount "sorted" 1 1 _) (wpAny_pure ?_)
  refine wpAny_bind (collect_list hl ?_ (by rw [sizeLine_eq]; omega))
  refine wpAny_bind (wpAny_newList ?_ (by rw [sizeLine_eq]; omega))
  have hsz : ((s.heap.push (seqObj "list" #[] 0)).update s.heap.objs.size (Obj.mapSeq (· ++ vs.toArray))).objs.size = s.heap.objs.size + 1 := by
    rw [Heap.size_update, size_push']
  have hoL : (((s.heap.push (seqObj "list" #[] 0)).update s.heap.objs.size (Obj.mapSeq (· ++ vs.toArray))).push (seqObj "list" vs.toArray 0)).get? (s.heap.objs.size + 1) = some (seqObj "list" vs.toArray 0) := by
    rw [← hsz]; exact Heap.get?_push_size _ rfl
  have keep : ∀ b o, s.heap.get? b = some o → (((s.heap.push (seqObj "list" #[] 0)).update s.heap.objs.size (Obj.mapSeq (· ++ vs.toArray))).push (seqObj "list" vs.toArray 0)).get? b = some o := fun b o q => by
    have hlt : b < s.heap.objs.size := Heap.lt_size q
    rw [Heap.get?_push_ne _ _ _ (by rw [hsz]; exact Nat.ne_of_lt (Nat.lt_succ_of_lt hlt)), Heap.get?_update_ne _ _ _ _ (Nat.ne_of_lt hlt), Heap.get?_push_ne _ _ _ (Nat.ne_of_lt hlt)]
    exact q
  have nea : ∀ b o, s.heap.get? b = some o → b ≠ s.heap.objs.size + 1 := fun b o e => Nat.ne_of_lt (Nat.lt_succ_of_lt (Heap.lt_size e))
  show wpAny _ _ _ _ _ { s with heap := ((s.heap.push (seqObj "list" #[] 0)).update s.heap.objs.size (Obj.mapSeq (· ++ vs.toArray))).push (seqObj "list" vs.toArray 0) }
  rw [hsz]
  refine wpAny_bind (wpAny_holding (wpAny_call_entry slot_list_sort ⟨_, hoL, rfl⟩ entry_list_sort (zin (κ := κ) (r := r) hoL h64 hr (fun h2 h' tk hk' => ?_) (fun i j h' tk C hi hj hk' q => ?_) fun p tk hp hu => ⟨_, rfl, ?_⟩) (args_list_sort _)))
  · exact hk h2 h' tk fun b o e => hk' b o (nea b o e) (keep b o e)
  · exact hc i j h' tk C hi hj (fun b o e => hk' b o (nea b o e) (keep b o e)) q
  · exact wpAny_pure ⟨_, rfl, h p tk hp hu⟩
end
theorem jq : ∀ x : List Int, LW.lexLt x x = false
  | [] => rfl
  | a :: x => by rw [LW.lexLt, if_pos rfl]; exact jq x
theorem Zl : ∀ {x y z : List Int}, LW.lexLt x y = true → LW.lexLt y z = true → LW.lexLt x z = true
  | x, [], _, h, _ => by cases x <;> simp [LW.lexLt] at h
  | _, _ :: _, [], _, h => by cases h
  | [], _ :: _, _ :: _, _, _ => rfl
  | a :: x, b :: y, c :: z, h1, h2 => by
    rw [LW.lexLt] at h1 h2 ⊢
    by_cases e1 : a = b
    · by_cases e2 : b = c
      · rw [if_pos e1] at h1
        rw [if_pos e2] at h2
        rw [if_pos (e1.trans e2)]
        exact Zl h1 h2
      · rw [if_neg e2, decide_eq_true_iff] at h2
        rw [if_neg (by omega), decide_eq_true_iff]
        omega
    · rw [if_neg e1, decide_eq_true_iff] at h1
      by_cases e2 : b = c
      · rw [if_neg (by omega), decide_eq_true_iff]; omega
      · rw [if_neg e2, decide_eq_true_iff] at h2
        rw [if_neg (by omega), decide_eq_true_iff]; omega
theorem VD : ∀ {x y : List Int}, x ≠ y → LW.lexLt x y = true ∨ LW.lexLt y x = true
  | [], [], h => absurd rfl h
  | [], _ :: _, _ => .inl rfl
  | _ :: _, [], _ => .inr rfl
  | a :: x, b :: y, h => by
    rw [LW.lexLt, LW.lexLt]
    by_cases e : a = b
    · rw [if_pos e, if_pos e.symm]
      exact VD fun z => h (by rw [e, z])
    · rw [if_neg e, if_neg (fun z => e z.symm), decide_eq_true_iff, decide_eq_true_iff]
      omega
noncomputable abbrev wH (x y : List Int) : Prop := LW.lexLt x y = true
theorem ka (x : List Int) : ∀ l, (jh x l).Perm (x :: l)
  | [] => .refl _
  | y :: r => by
    unfold jh
    split
    · exact .refl _
    · exact ((ka x r).cons y).trans (.swap x y r)
theorem VE : ∀ l, (wS l).Perm l
  | [] => .refl _
  | x :: r => (ka x _).trans ((VE r).cons x)
theorem zbF {x : List Int} : ∀ {l : List (List Int)}, l.Pairwise wH → (∀ y ∈ l, x ≠ y) → (jh x l).Pairwise wH
  | [], _, _ => by simp [jh]
  | y :: r, h, hn => by
    rw [List.pairwise_cons] at h
    unfold jh
    split
    · rename_i hx
      rw [List.pairwise_cons, List.pairwise_cons]
      refine ⟨fun z hz => ?_, h⟩
      rcases List.mem_cons.mp hz with rfl | hz
      · exact hx
      · exact Zl hx (h.1 z hz)
    · rename_i hx
      have hyx : wH y x := (VD (hn y List.mem_cons_self)).resolve_left hx
      rw [List.pairwise_cons]
      refine ⟨fun z hz => ?_, zbF h.2 fun z hz => hn z (List.mem_cons_of_mem _ hz)⟩
      rcases List.mem_cons.mp ((ka x r).mem_iff.mp hz) with rfl | hz
      · exact hyx
      · exact h.1 z hz
theorem kb : ∀ {l : List (List Int)}, l.Nodup → (wS l).Pairwise wH
  | [], _ => List.Pairwise.nil
  | x :: r, h => by
    rw [List.nodup_cons] at h
    exact zbF (kb h.2) fun y hy e => h.1 ((VE r).mem_iff.mp (e ▸ hy))
theorem zbG : ∀ {l m : List (List Int)}, l.Perm m → l.Pairwise wH → m.Pairwise wH → l = m
  | [], m, h, _, _ => (List.Perm.nil_eq h)
  | x :: l, [], h, _, _ => by have := h.length_eq; simp at this
  | x :: l, y :: m, h, h1, h2 => by
    rw [List.pairwise_cons] at h1 h2
    have e : x = y := by
      rcases List.mem_cons.mp (h.mem_iff.mp List.mem_cons_self) with e | hx
      · exact e
      · rcases List.mem_cons.mp (h.mem_iff.mpr List.mem_cons_self) with e | hy
        · exact e.symm
        · have q1 := h2.1 x hx
          have q2 := h1.1 y hy
          have := Zl q1 q2
          rw [jq] at this; cases this
    subst e
    rw [zbG (List.Perm.cons_inv h) h1.2 h2.2]
noncomputable def wt (ks : List (List Int)) (x : List Int) : Int := ((ks.filter fun y => LW.lexLt y x).length : Nat)
theorem VF {ks : List (List Int)} {x y : List Int} (hx : x ∈ ks) (h : wH x y) : wt ks x < wt ks y := by
  unfold wt
  have key : ∀ l : List (List Int), (l.filter fun z => LW.lexLt z x).length ≤ (l.filter fun z => LW.lexLt z y).length ∧ (x ∈ l → (l.filter fun z => LW.lexLt z x).length < (l.filter fun z => LW.lexLt z y).length) := by
    intro l
    induction l with
    | nil => exact ⟨Nat.le_refl _, fun z => by cases z⟩
    | cons z l ih =>
      rw [List.filter_cons, List.filter_cons]
      by_cases h1 : LW.lexLt z x = true
      · have h2 := Zl h1 h
        rw [if_pos h1, if_pos h2]
        simp only [List.length_cons]
        refine ⟨by omega, fun hz => ?_⟩
        rcases List.mem_cons.mp hz with rfl | hz
        · rw [jq] at h1; cases h1
        · have := ih.2 hz; omega
      · rw [if_neg h1]
        by_cases h2 : LW.lexLt z y = true
        · rw [if_pos h2]
          simp only [List.length_cons]
          exact ⟨by omega, fun _ => by omega⟩
        · rw [if_neg h2]
          refine ⟨ih.1, fun hz => ?_⟩
          rcases List.mem_cons.mp hz with rfl | hz
          · exact absurd h h2
          · exact ih.2 hz
  have := (key ks).2 hx
  omega
theorem zbH {ks : List (List Int)} {x y : List Int} (hx : x ∈ ks) (hy : y ∈ ks) (hne : x ≠ y) : decide (wt ks x < wt ks y) = LW.lexLt x y := by
  rcases VD hne with h | h
  · have := VF hx h
    rw [h, decide_eq_true_iff]; exact this
  · have h1 := VF hy h
    have h2 : LW.lexLt x y = false := by
      cases e : LW.lexLt x y with
      | false => rfl
      | true => have := Zl e h; rw [jq] at this; cases this
    rw [h2, decide_eq_false_iff_not]; omega
section
variable {X : Cx} {pins : List (Addr × Obj)} {σ : St} {H : Hp} {s : Shared} {W : Addr → Prop}
noncomputable def Zm (h : Heap) (v : Value) (k : List Int) : Prop := ∃ a o its n, v = .ref a ∧ h.get? a = some o ∧ o.cls = .type "tuple" ∧ o.data = .seq its n ∧ IntsAre its.toList k
theorem zbI (I : Inv X pins σ H s) : ∀ {ds : List D} {xs : List V} {us : List Value} {ks : List (List Int)}, Reps X.K W H ds xs → Vals xs us → tups? ds = some ks → Paired (Zm s.heap) us ks
  | _, _, _, ks, .nil, r, e => by cases r; simp [tups?] at e; subst e; exact .nil
  | _, _, _, ks, .cons h t, r, e => by
    cases r with
    | cons r1 r2 =>
      cases h with
      | tup hH rp =>
        simp only [tups?, jo1, jo2] at e
        obtain ⟨k, e1, ks', e2, rfl⟩ := e
        refine .cons ?_ (zbI I t r2 e2)
        cases r1
        obtain ⟨its, rv, ⟨o, ho, hc, n, hd⟩, _⟩ := I.tuple (.of hH)
        rw [rp.ofInts e1] at rv
        exact ⟨_, o, its.toArray, n, rfl, ho, hc, hd, by simpa using vM rv⟩
      | _ => simp [tups?] at e
theorem kc {α β : Type} {F : α → β → Prop} : ∀ {xs : List α} {ys : List β} {i : Nat}, Paired F xs ys → i < xs.length → ∃ x y, xs[i]? = some x ∧ ys[i]? = some y ∧ F x y
  | _, _, _, .nil, h => by simp at h
  | _, _, 0, .cons h _, _ => ⟨_, _, rfl, rfl, h⟩
  | _, _, i + 1, .cons _ t, h => by
    obtain ⟨x, y, h1, h2, h3⟩ := kc (i := i) t (by simpa using h)
    exact ⟨x, y, by simpa using h1, by simpa using h2, h3⟩
theorem zbJ {h : Heap} : ∀ {us : List Value} {ks : List (List Int)}, Paired (Zm h) us ks → (∀ k ∈ ks, k ≠ []) → ∃ fs, KatTups h us fs ∧ fs.length = us.length ∧ ∀ v ∈ fs, ∃ i t, v = Value.int i t
  | _, _, .nil, _ => ⟨[], .nil, rfl, fun _ z => by cases z⟩
  | _, _, .cons hx t, hn => by
    obtain ⟨fs, h1, h2, h3⟩ := zbJ t fun k hk => hn k (List.mem_cons_of_mem _ hk)
    obtain ⟨a, o, its, n, rfl, ho, hc, hd, hi⟩ := hx
    have hne := hn _ List.mem_cons_self
    cases hi' : its.toList with
    | nil => rw [hi'] at hi; cases hi; exact absurd rfl hne
    | cons v r =>
      rw [hi'] at hi
      cases hi with
      | cons i t' hr =>
        refine ⟨.int i t' :: fs, .cons ho hc hd (by rw [← Array.getElem?_toList, hi']; rfl) h1, by simp [h2], fun v hv => ?_⟩
        rcases List.mem_cons.mp hv with rfl | hv
        · exact ⟨_, _, rfl⟩
        · exact h3 v hv
theorem zbK {prog : Program} {w : World} {A : Around} {Q : Bool → Shared → Prop} {s : Shared} {fin : Bool} : ∀ {us vs : List Value} {x y : List Int} (i : Nat), IntsAre us x → IntsAre vs y → (fin = decide (us.length < vs.length)) → Q (LW.lexLt x y) s → KatLex prog w A true fin Q (us.zip vs) i s
  | _, _, _, _, i, .nil, hv, hf, q => by
    cases hv with
    | nil => subst hf; exact kat_nil q
    | cons j t hv => subst hf; exact kat_nil q
  | _, _, _, _, i, .cons a t hu, hv, hf, q => by
    cases hv with
    | nil => subst hf; exact kat_nil q
    | cons b t' hv =>
      refine kat_cons (wpAny_eqBool_int ?_)
      by_cases e : a = b
      · subst e
        have : (a == a) = true := by simp
        rw [this]
        refine kat_yes (zbK (i + 1) hu hv (by rw [hf]; simp) ?_)
        rw [LW.lexLt, if_pos rfl] at q
        exact q
      · have : (a == b) = false := by simpa using e
        rw [this]
        refine kat_no ?_
        rw [LW.lexLt, if_neg e] at q
        cases i with
        | zero => exact oneLt_int q
        | succ i =>
          have e2 : (true && (i + 1 == 0)) = false := rfl
          rw [e2]
          exact kat_one _ _ (lt_int q)
theorem xB {α : Type} {l : List α} {i : Nat} {x d : α} (h : l[i]? = some x) : l.getD i d = x := by
  rw [List.getD_eq_getElem?_getD, h]; rfl
theorem ziq {xs : List V} {us : List Value} (r : Vals xs us) (p : List Nat) (hp : ∀ i ∈ p, i < us.length) : Vals (p.map fun i => xs.getD i .non) (p.map fun i => us.getD i Value.none) := by
  induction p with
  | nil => exact .nil
  | cons i p ih =>
    refine .cons ?_ (ih fun j hj => hp j (List.mem_cons_of_mem _ hj))
    have hi := hp i List.mem_cons_self
    have hl := r.length
    obtain ⟨u, h1, h2⟩ := r.get (i := i) (x := xs[i]'(by omega)) (by simp)
    show RelV (xs.getD i .non) (us.getD i Value.none)
    rw [xB h1, xB (x := xs[i]'(by omega)) (by simp)]
    exact h2
theorem zir {ds : List D} {xs : List V} (r : Reps X.K W H ds xs) (p : List Nat) (hp : ∀ i ∈ p, i < ds.length) : Reps X.K W H (p.map fun i => ds.getD i .non) (p.map fun i => xs.getD i .non) := by
  induction p with
  | nil => exact .nil
  | cons i p ih =>
    refine .cons ?_ (ih fun j hj => hp j (List.mem_cons_of_mem _ hj))
    have hi := hp i List.mem_cons_self
    obtain ⟨x, h1, h2⟩ := r.get (i := i) (d := ds[i]) (by simp)
    show Rep X.K W H (ds.getD i .non) (xs.getD i .non)
    rw [xB h1, xB (x := ds[i]) (by simp)]
    exact h2
theorem zbL : ∀ {ds : List D} {ks : List (List Int)}, tups? ds = some ks → ds = ks.map kT
  | [], ks, e => by simp [tups?] at e; subst e; rfl
  | d :: r, ks, e => by
    cases d with
    | tup l =>
      simp only [tups?, jo1, jo2] at e
      obtain ⟨k, e1, ks', e2, rfl⟩ := e
      rw [zbL e2, Yk e1]; rfl
    | _ => simp [tups?] at e
theorem zbM : CallR X (.builtin "sorted") (VR X.K (ze .sorted)) := by
  rintro pins s σ H xs us Q I rv ⟨W, ds, r, wf, hs, hf, q⟩
  replace hf : Vb ds = some r := hf
  unfold Vb at hf
  split at hf
  case h_2 => cases hf
  rename_i l
  unfold ZW at hf
  split at hf
  · rename_i ns e1
    split at hf
    · rename_i h64
      cases hf
      exact zh4 (ds := [.lst l]) I rv hs e1 h64 q
    · cases hf
  · rw [jo1] at hf
    obtain ⟨ks, e1, hf⟩ := hf
    split at hf
    case isFalse => cases hf
    rename_i hcond
    cases hf
    obtain ⟨h64, hnd, hne⟩ := hcond
    have hne' : ∀ k ∈ ks, k ≠ [] := fun k hk e => by
      have := List.all_eq_true.mp hne k hk
      rw [e] at this; cases this
    cases hs with
    | cons h1 t =>
      cases t
      obtain ⟨p, ys, rfl, hp, rp⟩ := h1.lst
      obtain ⟨u, rfl, ru⟩ := wQ rv
      cases ru
      obtain ⟨its, rv', pl, hz⟩ := I.list hp
      have hT := zbI I rp rv' e1
      have hlen : its.length = ks.length := Paired.length hT
      have hl2 := rp.length
      have hl3 := rv'.length
      let r : Nat → Int := fun i => wt ks (ks.getD i [])
      have memk : ∀ i, i < its.length → ks.getD i [] ∈ ks := fun i hi => by
        rw [xB (x := ks[i]'(by omega)) (by simp)]; exact List.getElem_mem _
      have injk : ∀ i j, i < its.length → j < its.length → i ≠ j → ks.getD i [] ≠ ks.getD j [] := fun i j hi hj ne e => by
        rw [xB (x := ks[i]'(by omega)) (by simp), xB (x := ks[j]'(by omega)) (by simp)] at e
        exact ne ((List.getElem_inj hnd).mp e)
      have VG : ∀ {h' : Heap}, (∀ b o, s.heap.get? b = some o → h'.get? b = some o) → ∀ {v : Value} {k : List Int}, Zm s.heap v k → Zm h' v k := by
        intro h' hk v k ⟨a, o, i, n, h1, h2, h3⟩
        exact ⟨a, o, i, n, h1, hk _ _ h2, h3⟩
      refine zio (κ := tuples' (Value.type "int" != Value.type "tuple")) (r := r) pl.isList (by omega) (fun i j hi hj ne e => ?_) (fun h2 h' tk hk => ?_) (fun i j h' tk C hi hj hk qC => ?_) fun pm tk hpm hup => ?_
      · rcases VD (injk i j hi hj ne) with z | z
        · have := VF (memk i hi) z
          have e : wt ks (ks.getD i []) = wt ks (ks.getD j []) := e
          omega
        · have := VF (memk j hj) z
          have e : wt ks (ks.getD i []) = wt ks (ks.getD j []) := e
          omega
      · obtain ⟨fs, f1, f2, f3⟩ := zbJ (Paired.imp' (fun v k z => VG hk z) hT) hne'
        exact kat_kind (s := { s with heap := h', toks := tk }) f1 (by omega) (fun v hv => by obtain ⟨i, t, rfl⟩ := f3 v hv; exact Looks.of_pure rfl) (by simp) ⟨rfl, tk, rfl⟩
      · obtain ⟨x1, k1, a1, a2, a3⟩ := kc hT hi
        obtain ⟨x2, k2, b1, b2, b3⟩ := kc hT hj
        rw [xB a1, xB b1]
        obtain ⟨a, o, i1, n, rfl, c1, c2, c3, c4⟩ := VG hk a3
        obtain ⟨b, o', i2, n', rfl, d1, d2, d3, d4⟩ := VG hk b3
        have er : decide (r i < r j) = LW.lexLt k1 k2 := by
          show decide (wt ks (ks.getD i []) < wt ks (ks.getD j [])) = _
          by_cases e : i = j
          · subst e
            rw [a2] at b2; cases b2
            rw [jq]; simp
          · have := zbH (memk i hi) (memk j hj) (injk i j hi hj e)
            rw [xB a2, xB b2] at this
            rw [xB a2, xB b2]
            exact this
        rw [er] at qC
        refine kat_lt (s := { s with heap := h', toks := tk }) c1 c3 d1 d3 ?_
        exact zbK 0 c4 d4 (by simp) (qC tk)
      · obtain ⟨e, he⟩ := sortedAll_at s.heap its (pm.toList.map fun i => its.getD i Value.none).toArray
        have hlt : ∀ i ∈ pm.toList, i < its.length := fun i hi => by
          have := (Array.perm_iff_toList_perm.mp hpm.perm).mem_iff.mp hi
          simpa using this
        have fr : H (s.heap.objs.size + 1) = Option.none := I.hok.fresh (Nat.le_succ _)
        have hperm : (pm.toList.map fun i => ks.getD i []).Perm ks := by
          have h1 := (Array.perm_iff_toList_perm.mp hpm.perm).map fun i => ks.getD i []
          refine h1.trans (List.Perm.of_eq ?_)
          apply List.ext_getElem
          · simp [hlen]
          · intro i h1 h2; simp at h1; simp [h1, h2]
        have hupk : (pm.toList.map fun i => ks.getD i []).Pairwise wH := by
          rw [List.pairwise_iff_getElem]
          intro i j hi hj hij
          rw [List.length_map, Array.length_toList, hpm.size] at hi hj
          have h1 := hup i j hij (by omega)
          have li := hpm.lt i hi
          have lj := hpm.lt j hj
          simp only [List.getElem_map, Array.getElem_toList]
          have gi : pm.getD i 0 = pm[i]'(by rw [hpm.size]; exact hi) := by simp [Array.getD, hpm.size, hi]
          have gj : pm.getD j 0 = pm[j]'(by rw [hpm.size]; exact hj) := by simp [Array.getD, hpm.size, hj]
          unfold kk at h1
          rw [gi] at h1 li
          rw [gj] at h1 lj
          have hne : pm[i]'(by rw [hpm.size]; exact hi) ≠ pm[j]'(by rw [hpm.size]; exact hj) := fun z => by rw [z] at h1; omega
          have := zbH (memk _ li) (memk _ lj) (injk _ _ li lj hne)
          show LW.lexLt _ _ = true
          rw [← this, decide_eq_true_iff]
          exact h1
        have heq : (pm.toList.map fun i => ks.getD i []) = wS ks := zbG (hperm.trans (VE ks).symm) hupk (kb hnd)
        have hds : (pm.toList.map fun i => l.getD i .non) = (wS ks).map kT := by
          rw [← heq, List.map_map]
          apply List.map_congr_left
          intro i hi
          have hi' := hlt i hi
          rw [zbL e1]
          show (ks.map kT).getD i .non = kT (ks.getD i [])
          rw [xB (x := kT (ks[i]'(by omega))) (by simp [show i < ks.length by omega]), xB (x := ks[i]'(by omega)) (by simp)]
        have hrep := zir rp pm.toList fun i hi => by have := hlt i hi; omega
        rw [hds] at hrep
        have hvals := ziq rv' pm.toList fun i hi => hlt i hi
        refine ⟨.ref (s.heap.objs.size + 1), zr H (s.heap.objs.size + 1) (.lst (pm.toList.map fun i => ys.getD i .non)), I.laid (t' := tk) (fun _ _ => sortedAll_old) (Nat.le_succ _) ⟨?_, _, e, hvals, ?_⟩, rfl, q _ _ (yx fr _) (jm fr hrep)⟩
        · rw [List.length_map, Array.length_toList, hpm.size]; exact Nat.le_of_lt (XT (by omega))
        · simpa [seqObj] using he
end
end L2.LW
set_option maxHeartbeats 4000000
namespace L2.LW
open PySem PySem.Spec PySem.W PyProof.Rows
section
variable {X : Cx} {fn : Nat → List D → Option SV} {fa : Nat → List D → Option Ans} {fuel : Nat} {e : Expr} {pos : Pos} {sts : List Stmt} {ss : Ss}
theorem zbN {xs : Array (Int × Tok)} {ns : List Int} (h1 : xs.size = ns.length) (h2 : ∀ i, (h : i < ns.length) → numAt xs i = ns[i]) : preSum (numAt xs) xs.size = ns.sum := by
  rw [h1]
  have key : ∀ k, k ≤ ns.length → preSum (numAt xs) k = (ns.take k).sum := by
    intro k
    induction k with
    | zero => intro _; rfl
    | succ k ih =>
      intro hk
      show preSum (numAt xs) k + numAt xs k = _
      rw [ih (by omega), h2 k (by omega), List.take_succ_eq_append_getElem (by omega), List.sum_append]
      simp only [List.sum_cons, List.sum_nil]; omega
  have := key ns.length (Nat.le_refl _)
  rwa [List.take_length] at this
theorem zis (hc : X.calm = true) : CallR X (.builtin "sum") (VR X.K (ze .sumL)) := by
  rintro pins s σ H xs us Q I rv ⟨W, ds, r, wf, hs, hf, q⟩
  replace hf : Ve ds = some r := hf
  unfold Ve at hf
  split at hf
  · rw [jo1] at hf
    obtain ⟨ns, e1, hf⟩ := hf
    cases hf
    cases hs with
    | cons h1 t =>
      cases t
      obtain ⟨p, ys, rfl, hp, rp⟩ := h1.lst
      have ey := rp.ofInts e1
      subst ey
      obtain ⟨u, rfl, ru⟩ := wQ rv
      cases ru
      obtain ⟨its, rv', pl, hz⟩ := I.list hp
      obtain ⟨xs, x1, x2, x3⟩ := zbA (vM rv')
      have hpl := pl.isList
      rw [x1] at hpl
      refine sum_intListG (I.ok.hd hc) hpl fun h' tk t' hk => ?_
      rw [zbN x2 x3]
      exact ⟨.int _, H, I.kept (t' := tk) hk, ⟨_, rfl⟩, q _ H (.refl H) (.val (.int _))⟩
  · rw [jo1] at hf
    obtain ⟨ns, e1, hf⟩ := hf
    cases hf
    cases hs with
    | cons h1 t =>
      cases t
      obtain ⟨p, ys, rfl, hp, rp⟩ := h1.tup
      have ey := rp.ofInts e1
      subst ey
      obtain ⟨u, rfl, ru⟩ := wQ rv
      cases ru
      obtain ⟨its, rv', pl, hz⟩ := I.tuple hp
      obtain ⟨xs, x1, x2, x3⟩ := zbA (vM rv')
      rw [x1] at pl
      refine ktm_sumG (I.ok.hd hc) pl fun h' tk t' hk => ?_
      rw [zbN x2 x3]
      exact ⟨.int _, H, I.kept (t' := tk) hk, ⟨_, rfl⟩, q _ H (.refl H) (.val (.int _))⟩
  · cases hf
end
end L2.LW
set_option maxHeartbeats 4000000
namespace L2.LW
open PySem PySem.Spec PySem.W PySem.Calls PyProof.Rows
noncomputable def RawD (h : Heap) (d : Addr) (tb : Array DictEntry) (ep : Nat) : Prop := ∃ o, h.get? d = some o ∧ o.ExactDict ∧ o.data = .dict tb ep
theorem RawD.at {h h2 : Heap} {d : Addr} {tb : Array DictEntry} {ep : Nat} (x : RawD h d tb ep) (e : ∀ o, h.get? d = some o → h2.get? d = some o) : RawD h2 d tb ep := let ⟨o, ho, r⟩ := x; ⟨o, e _ ho, r⟩
theorem RawD.lt {h : Heap} {d : Addr} {tb : Array DictEntry} {ep : Nat} (x : RawD h d tb ep) : d < h.objs.size := let ⟨_, ho, _⟩ := x; Heap.lt_size ho
end L2.LW
set_option maxHeartbeats 4000000
namespace L2.LW
open PySem PySem.Spec PySem.W PySem.Calls PyProof.Rows
theorem VG {h h' : Heap} (hk : ∀ b o, h.get? b = some o → h'.get? b = some o) {v : Value} {k : List Int} : Zm h v k → Zm h' v k := fun ⟨a, o, i, n, h1, h2, h3⟩ => ⟨a, o, i, n, h1, hk _ _ h2, h3⟩
end L2.LW
set_option maxHeartbeats 4000000
set_option maxHeartbeats 4000000
namespace L2.LW
open PySem PySem.Spec PySem.W PySem.Calls PyProof.Rows
noncomputable def ZJ (i : Nat) : Int := reduceHash (Builtin.Tuple.tupleHashOf [hashInt ((i / 8 : Nat) : Int), hashInt ((i % 8 : Nat) : Int)])
section
variable {prog : Program} {w : World} {K : Type} [DecidableEq K] {knd : HeapKind prog w K} {A : Around} {E : Value → Shared → Prop} {s : Shared}
noncomputable def zit (xs zs : List (K × Addr × Value)) : List (K × Addr × Value) := zs.foldl (fun acc z => storedH acc z.1 z.2.1 z.2.2) xs
end
end L2.LW
set_option maxHeartbeats 4000000
namespace L2.LW
open PySem PySem.Spec PySem.W PySem.Calls PyProof.Rows
noncomputable def ziu (kvs kvs2 : List (List zn × V)) : List (List zn × V) := kvs2.foldl (fun acc p => yD acc p.1 p.2) kvs
theorem KT.merge {H : Hp} : ∀ {kvs2 : List (List zn × V)} {zs : List (List zn × Addr × Value)}, KT H kvs2 zs → ∀ {kvs : List (List zn × V)} {xs : List (List zn × Addr × Value)}, KT H kvs xs → KT H (ziu kvs kvs2) (zit xs zs)
  | _, _, .nil, _, _, r => r
  | _, _, .cons (a := p) (b := z) h t, kvs, xs, r => by
    have r1 : KT H (yD kvs p.1 p.2) (storedH xs z.1 z.2.1 z.2.2) := by
      have e : p.1 = z.1 := h.1
      rw [e]
      exact KT.put r z.1 (by rw [← e]; exact h.2.1) h.2.2
    exact KT.merge t r1
end L2.LW
set_option maxHeartbeats 4000000
set_option maxHeartbeats 4000000
set_option maxHeartbeats 4000000
set_option maxHeartbeats 4000000
set_option maxHeartbeats 4000000
namespace L2.LW
open PySem PySem.Spec PySem.W PySem.Calls PyProof.Rows
noncomputable def FlXOk (K : PySem.W.Frag) (cl : Nat → Value) (E : XK) (W : Addr → Prop) (ρ : LW.Env) (σ : St) (W' : Addr → Prop) (ρ' : LW.Env) (σ' : St) (H' : Hp) (D : Ends) : FlX → Prop
  | .fl f => FlOk K W ρ σ W' ρ' σ' H' D f
  | .ex c => E (cl c) Option.none H'
theorem FlXOk.back {K : PySem.W.Frag} {cl : Nat → Value} {E : XK} {W W1 W2 : Addr → Prop} {ρ ρ1 ρ2 : LW.Env} {σ σ1 σ2 : St} {H H1 H2 : Hp} {D : Ends} {fl : FlX} (p : SPost K W ρ σ H W1 ρ1 σ1 H1) (h : FlXOk K cl E W ρ σ W2 ρ2 σ2 H2 D fl) : FlXOk K cl E W1 ρ1 σ1 W2 ρ2 σ2 H2 D fl := by
  cases fl with
  | fl f => exact FlOk.back (ρ2 := ρ2) p h
  | ex c => exact h
section
variable {X : Cx} {cl : Nat → Value} {E : XK} {fa : Nat → List D → Option Ans} {fuel : Nat} {st : Stmt} {sts sts' : List Stmt} {s : S} {t : T} {ts t1 t2 : Ts} {e c : Expr} {es : List Expr} {cs : Es} {cc : LW.E} {x y : Str} {p pos : Pos}
noncomputable def ziv (K : PySem.W.Frag) (cl : Nat → Value) (E : XK) (fa : Nat → List D → Option Ans) (i : Nat) (cs : Es) : TE := fun σ H Q => ∃ W ρ a, R K W ρ σ H ∧ wY fa i cs ρ = some a ∧ match a with
  | .ok r [] => ∀ v H', Same H H' → Res K W H H' r v → Q v H'
  | .ok _ _ => False
  | .ex c => ∀ H', Same H H' → E (cl c) Option.none H'
section
variable {i : Nat} (hp : PE X e (ziv X.K cl E fa i cs))
include hp
end
end
end L2.LW
set_option maxHeartbeats 4000000
set_option maxHeartbeats 4000000
set_option maxHeartbeats 4000000
namespace L2.LW
open PySem PySem.Spec PySem.W PySem.Calls PyProof.Rows
theorem all_cons {P : Nat → Prop} {a : Nat} {l : List Nat} (h : P a) (t : ∀ c ∈ l, P c) : ∀ c ∈ a :: l, P c := fun c hc => by
  rcases List.mem_cons.mp hc with rfl | hc
  · exact h
  · exact t c hc
end L2.LW
set_option maxHeartbeats 4000000
set_option maxRecDepth 100000
set_option maxHeartbeats 4000000
namespace L2.LW
open PySem PySem.Spec PySem.W PySem.Calls PyProof.Rows
noncomputable def zbO (n : Nat) (itm : Nat → Option V) (ok : Hp → Prop) : It :=
  ⟨fun i H => i < n ∧ ok H, fun i H v H' => ∃ p x, H p = Option.none ∧ v = .ref p ∧ H' = zr H p (.tup [.int i, x]) ∧ itm i = some x, fun i H => i = n ∧ ok H⟩
section
variable {X : Cx} {pins : List (Addr × Obj)} {σ : St} {H : Hp} {s : Shared}
theorem ziw {e it : Addr} {h' : Heap} {i : Int} {tk : Tok} {k : Nat} {x : V} {u : Value} (I : Inv X pins σ H s) (fe : xa X pins H e) (fi : xa X pins H it)
    (kp : ∀ b o, b ≠ e → b ≠ it → s.heap.get? b = some o → h'.get? b = some o) (ht : h'.get? s.heap.objs.size = some { cls := .type "tuple", data := .seq #[.int i tk, u] }) (rx : RelV x u) :
    Inv X pins σ (zr H s.heap.objs.size (.tup [.int i, x])) { s with heap := h', toks := k } := by
  have low : ∀ b o, s.heap.get? b = some o → b ≠ s.heap.objs.size := fun b o z => Nat.ne_of_lt (Heap.lt_size z)
  have lowH : ∀ b o, H b = some o → b ≠ s.heap.objs.size := fun b o z => Nat.ne_of_lt (I.hok.lt z)
  have un : Un (wg X.stack) [e, it] H (zr H s.heap.objs.size (.tup [.int i, x])) s.heap h' :=
    ⟨fun b o z _ _ hx => kp b o (fun y => hx (by simp [y])) (fun y => hx (by simp [y])) z, fun b o z _ _ hx => ⟨o.slots, kp b o (fun y => hx (by simp [y])) (fun y => hx (by simp [y])) z⟩,
      fun b o z n _ => by rw [zw (low b o z)]; exact n, fun b o z hx => ⟨o, kp b o (fun y => hx (by simp [y])) (fun y => hx (by simp [y])) z⟩,
      fun b xs z => by rw [zw (lowH b _ z)]; exact z, fun b o u z => by rw [zw (lowH b _ z)]; exact z, fun b ps z => ⟨#[], by rw [zw (lowH b _ z)]; simpa using z⟩⟩
  have ok : HOk X.prog X.w (zr H s.heap.objs.size (.tup [.int i, x])) h' := fun a o z => by
    by_cases ha : a = s.heap.objs.size
    · subst ha
      rw [yf] at z
      cases z
      exact ⟨by show 2 ≤ sizeLine; decide, [.int i tk, u], .cons ⟨tk, rfl⟩ (.cons rx .nil), _, ht, rfl, _, rfl⟩
    · rw [zw ha] at z
      have nt : ∀ b, (b = a ∨ H b = some (.own a)) → b ≠ e ∧ b ≠ it := fun b hb => by
        have hb' : H b ≠ Option.none := by
          rcases hb with rfl | hb
          · rw [z]; exact fun z => nomatch z
          · rw [hb]; exact fun z => nomatch z
        exact ⟨fun y => hb' (by rw [y]; exact fe.1), fun y => hb' (by rw [y]; exact fi.1)⟩
      exact (I.hok a o z).stay (fun b u hb q => kp b u (nt b hb).1 (nt b hb).2 q) (fun b q => by rw [zw (lowH b _ q)]; exact q) fun b xs q => by rw [zw (lowH b _ q)]; exact q
  refine I.call' (s' := { s with heap := h', toks := k }) rfl un ok I.bare fun b hb => ?_
  rcases List.mem_cons.mp hb with rfl | hb
  · exact ⟨fe.2.2.2.1, fe.2.1, fe.2.2.2.2.1, fe.2.2.2.2.2⟩
  · obtain rfl := List.mem_singleton.mp hb
    exact ⟨fi.2.2.2.1, fi.2.1, fi.2.2.2.2.1, fi.2.2.2.2.2⟩
theorem zix {e it : Addr} {h' : Heap} (I : Inv X pins σ H s) (fi : xa X pins H it) (kp : ∀ b o, b ≠ it → s.heap.get? b = some o → h'.get? b = some o) : Inv X pins σ H { s with heap := h' } :=
  I.turned (t' := s.toks) (fun b o hb z => kp b o hb z) fi.1 fi.2.1 fi.2.2.2.1 fi.2.2.2.2.1 fi.2.2.2.2.2
end
theorem ziy {P : Program} {w : World} {A : Around} {E : Value → Shared → Prop} {s : Shared} {elts : List Expr} {kt : Nat} {pt : Pos} {e it a : Addr} {i : Int} {item : Value} {Q : Unit → Shared → Prop} (he : IsEnumOut s.heap e it i item a)
    (hQ : ∀ h', IsEnum h' e it i item → Heap.SameBut e s.heap h' → Q () { s with heap := h' }) : wpAny (model P w) A (letOwnedTupleGo (.Tuple elts kt pt) (.ref e) (.ref a)) Q E s := wpAny_letOwnedTupleGo_enum he hQ
end L2.LW
set_option maxHeartbeats 4000000
set_option maxHeartbeats 4000000
namespace L2.LW
open PySem PySem.Spec PySem.W PySem.Calls PyProof.Rows
theorem ke : ∀ {k n : Nat} {l : List D} {d : D}, (yM n l)[k]? = some d → ∃ x, l[k]? = some x ∧ d = .tup [.int ((n + k : Nat) : Int), x]
  | _, _, [], _, h => by simp [yM] at h
  | 0, n, x :: l, d, h => by
    simp only [yM, List.getElem?_cons_zero, Option.some.injEq] at h
    exact ⟨x, rfl, h.symm⟩
  | k + 1, n, x :: l, d, h => by
    simp only [yM, List.getElem?_cons_succ] at h
    obtain ⟨y, h1, h2⟩ := ke h
    refine ⟨y, by simpa using h1, ?_⟩
    rw [h2]
    congr 3
    omega
theorem kf : ∀ (n : Nat) (l : List D), (yM n l).length = l.length
  | _, [] => rfl
  | n, _ :: l => by simp [yM, kf (n + 1) l]
noncomputable def YE (K : PySem.W.Frag) (J : It) (W : Addr → Prop) (H : Hp) (ds : List D) : Prop :=
  ∀ W' H', Ext W H W' H' → ∀ k : Nat, (k = ds.length → J.stop k H') ∧ ∀ d, ds[k]? = some d → J.go k H' ∧ ∀ x H'', J.yld k H' x H'' → Same H' H'' ∧ Rep K W' H'' d x
section
variable {X : Cx} {fn : Nat → List D → Option SV} {fa : Nat → List D → Option Ans} {fuel : Nat} {e : Expr} {ce : E} {pos p : Pos} {sts : List Stmt} {ss : Ss} {elts : List Expr} {kt : Nat} {pt pos' : Pos}
theorem ziz {K : PySem.W.Frag} {W : Addr → Prop} {H : Hp} {xs : List V} {l : List D} {itm : Nat → Option V} {ok : Hp → Prop} {n : Nat} (hn : n = l.length) (hi : ∀ i : Nat, itm i = xs[i]?) (hok : ∀ W' H', Ext W H W' H' → ok H') (hr : ∀ W' H', Ext W H W' H' → Reps K W' H' l xs) : YE K (zbO n itm ok) W H (yM 0 l) := by
  intro W' H' x k
  rw [kf]
  refine ⟨fun z => ⟨by omega, hok W' H' x⟩, fun d hd => ?_⟩
  obtain ⟨y, h1, rfl⟩ := ke hd
  have lt : k < l.length := (List.getElem?_eq_some_iff.mp h1).1
  refine ⟨⟨by omega, hok W' H' x⟩, ?_⟩
  rintro v H'' ⟨q, w, hq, rfl, rfl, hw⟩
  have sm : Same H' (zr H' q (.tup [.int k, w])) := yx hq _
  refine ⟨sm, ?_⟩
  obtain ⟨w', g1, g2⟩ := (hr W' H' x).get h1
  rw [hi, g1] at hw
  cases hw
  rw [Nat.zero_add]
  exact .tup yf (.cons (.int _) (.cons (g2.ext (.same sm)) .nil))
end
end L2.LW
set_option maxHeartbeats 4000000
namespace L2.LW
open PySem PySem.Spec PySem.W PySem.Calls PyProof.Rows Builtin Builtin.ObjectAttr Builtin.Getset_descriptor
noncomputable def Lies (x D : Addr) (h : Heap) : Prop := ∃ o : Obj, h.get? x = some o ∧ o.cls = .ref D
theorem Lies.ty {x D : Addr} {M : Model} {h : Heap} (I : Lies x D h) : Looks M h (typeOf (.ref x)) (.ref D) := by
  obtain ⟨o, e1, e2⟩ := I
  exact e2 ▸ (Looks.ld e1).andThen .now
section
variable {prog : Program} {w : World} {A : Around} {E : Value → Shared → Prop} {s : Shared} {K : PySem.W.Frag} {x C D : Addr}
structure Asks (K : PySem.W.Frag) (D : Addr) : Prop where
  g : findIn K (.ref D) "__getattribute__" = some (some (.builtin "BaseException.__getattribute__"))
  h : findIn K (.ref D) "__getattr__" = some Option.none
  c : (clsIn K D).isSome = true
  a : findIn K (.ref D) "__class__" = some (some (.builtin "object.__class__"))
  n : specialIn K (.builtin "object.__class__") "__get__" = some (some (.builtin "getset_descriptor.__get__"))
  t : takesIn K (.builtin "object.__class__") = some true
  m : mroIn K D (.type "object") = some true
  e : mroIn K D (.type "BaseException") = some true
theorem Asks.find (Z : Asks K D) {M : Model} {h : Heap} (X : K.In h) : Looks M h (Builtin.ObjectAttr.find (.ref x) (.ref D) "__class__") (.bind (.builtin "getset_descriptor.__get__") (.builtin "object.__class__")) :=
  (looks_findIn X Z.a).andThen ((looks_specialIn X Z.n).andThen ((show Looks M h (dataDescriptor? (some (.builtin "object.__class__")) (some (.builtin "getset_descriptor.__get__"))) (some _) from (looks_takesIn X Z.t).andThen .now).andThen (Looks.tag .now)))
theorem ziA : splitId "BaseException.__getattribute__" = some ("BaseException", "__getattribute__") := by decide +kernel
theorem zbP : builtinKind "BaseException.__getattribute__" = some .slot := by decide +kernel
theorem ziB : plainId "BaseException.__getattribute__" = true := by decide +kernel
theorem ziC : entryFor table "BaseException.__getattribute__" = some Builtin.«object.__getattribute__» :=
  entryFor_alias (id' := "object.__getattribute__") (by kernel_rfl) (by first | rfl | decide +kernel) (by decide +kernel) (by kernel_rfl)
theorem ziD (a b : Value) : argsOk "BaseException.__getattribute__" ⟨[a, b], []⟩ := by unfold argsOk; kernel_rfl
theorem ziE (u : Value) : bindSpecial (.builtin "BaseException.__getattribute__") u = pure (.builtin "BaseException.__getattribute__", [u]) := by
  have n1 : withoutEnding? "BaseException.__getattribute__" "#opaque" = Option.none := by decide +kernel
  have n2 : withoutEnding? "BaseException.__getattribute__" "#data" = Option.none := by decide +kernel
  simp only [bindSpecial, typeOf, builtinType, n1, n2, zbP]
  rfl
theorem Asks.check (Z : Asks K D) {M : Model} {zL : List Value} {Q : Unit → Shared → Prop} (X : K.In s.heap) (I : Lies x D s.heap) (ok : argsOk "BaseException.__getattribute__" ⟨.ref x :: zL, []⟩) (q : Q () s) :
    wpAny M A (checkBuiltinCall "BaseException.__getattribute__" ⟨.ref x :: zL, []⟩) Q E s := by
  obtain ⟨hp, gn, dw, tt, os⟩ := s
  have T0 : Looks M hp (isInstance (.ref x) (.type "BaseException")) true := (Lies.ty (M := M) I).andThen (looks_mroIn X Z.e)
  simp only [checkBuiltinCall, zbP, ziA]
  refine wpAny_bind (T0.at ?_)
  simp only [Bool.not_true, Bool.false_eq_true, if_false]
  cases hs : Manifest.signature? "BaseException.__getattribute__" with
  | none => exact wpAny_pure q
  | some sg =>
    simp only [argsOk, hs] at ok
    have ok2 : Bind.checkArgs "BaseException.__getattribute__" sg ⟨.ref x :: zL, []⟩ = pure () := ok
    show wpAny M A (Bind.checkArgs _ sg _) Q E _
    rw [ok2]
    exact wpAny_pure q
theorem Asks.got (Z : Asks K D) {tp : Value} {R : Result → Shared → Prop} (X : K.In s.heap) (I : Lies x D s.heap) (q : R (.ok (.ret (.ref D))) s) :
    codeAny (model prog w) A (.call (.builtin "getset_descriptor.__get__") ⟨[.builtin "object.__class__", .ref x, tp], []⟩) R s := by
  obtain ⟨hp, gn, dw, tt, os⟩ := s
  have T0 : Looks (model prog w) hp (typeOf (.ref x)) (.ref D) := Lies.ty I
  have T1 := looks_mroIn (M := model prog w) X Z.m
  refine codeAny_call_builtin KF.slot_gs.plain KF.entry_gs (KF.slot_gs.check _ _ _ _ _ _ _ _ KF.type_class (KF.args_gs _ _ _) ?_)
  unfold Builtin.«getset_descriptor.__get__» descrGet
  rw [dga_obj]
  refine wpAny_bind (wpAny_pure ?_)
  unfold descrGetter descrCheckInstance descrNameAndClass isInstance
  simp only [KF.owner_class]
  repeat lk
  refine ⟨Code.quiet_builtin _ (by decide +kernel), codeAny_builtin KF.entry_class ?_⟩
  unfold Builtin.«object.__class__» shownTypeOf
  repeat lk
  exact q
theorem Asks.entry (Z : Asks K D) {tk : Tok} {Q : Fin → Shared → Prop} (X : K.In s.heap) (I : Lies x D s.heap) (q : Q (.done (.ret (.ref D))) s) :
    wpAny (model prog w) A (Builtin.«object.__getattribute__» ⟨[.ref x, .str "__class__" tk], []⟩) Q E s := by
  obtain ⟨hp, gn, dw, tt, os⟩ := s
  have T0 : Looks (model prog w) hp (typeOf (.ref x)) (.ref D) := Lies.ty I
  have T1 := Z.find (x := x) (M := model prog w) X
  refine wpAny_bind (wpAny_pure (wpAny_bind (wpAny_pure (wpAny_bind (T0.at (wpAny_bind (T1.at ?_)))))))
  show wpAny _ _ (holding [.builtin "object.__class__"] (call (.builtin "getset_descriptor.__get__") [.builtin "object.__class__", .ref x, .ref D]) >>= ret) _ _ _
  exact wpAny_bind (wpAny_holding (wpAny_call (Z.got X I (wpAny_pure q))))
theorem Asks.attr (Z : Asks K D) {Q : Option Value → Shared → Prop} (X : K.In s.heap) (I : Lies x D s.heap) (q : Q (some (.ref D)) { s with toks := s.toks + 1 }) : wpAny (model prog w) A (getAttr? (.ref x) "__class__") Q E s := by
  obtain ⟨hp, gn, dw, tt, os⟩ := s
  have T0 : Looks (model prog w) hp (typeOf (.ref x)) (.ref D) := Lies.ty I
  have T1 := looks_findIn (M := model prog w) X Z.g
  have T2 := looks_findIn (M := model prog w) X Z.h
  unfold getAttr? getAttrBy? getAttrBy
  refine wpAny_bind (wpAny_mkText (wpAny_bind (wpAny_attempt (wpAny_holding (wpAny_bind (T0.at (wpAny_bind (T1.at ?_))))))))
  show wpAny _ _ (getAttrByItsOwn _ _ _ _ _ _) _ _ _
  unfold getAttrByItsOwn hookBefore
  refine wpAny_bind (T2.at ?_)
  refine wpAny_bind (wpAny_attempt (wpAny_holding ?_))
  show wpAny _ _ (bindSpecial (.builtin "BaseException.__getattribute__") (.ref x) >>= _) _ _ _
  refine wpAny_bind (wpAny_of_eq (ziE _) ?_)
  refine wpAny_call (codeAny_call_builtin ziB ziC (Z.check (s := ⟨hp, gn, dw, tt + 1, os⟩) X I (ziD _ _) (Z.entry (s := ⟨hp, gn, dw, tt + 1, os⟩) X I ?_)))
  exact wpAny_mono (handed_on (Q := fun v s' => v = .ref D ∧ s' = ⟨hp, gn, dw, tt + 1, os⟩) rfl ⟨rfl, rfl⟩) (fun v s' z => by obtain ⟨rfl, rfl⟩ := z; exact wpAny_pure q) fun _ _ z => z
theorem zbQ {M : Model} {h : Heap} {B : Addr} (X : K.In h) (e : (clsIn K B).isSome = true) : Looks M h (isType (.ref B)) true := by
  unfold clsIn at e
  split at e
  case h_2 => cases e
  rename_i ho
  intro A1 Q1 E1 s1 k q
  unfold isType loadHead
  exact wpAny_bind (wpAny_loadPart (k _ _ (X _ _ ho)) (wpAny_pure q))
theorem Asks.nested (Z : Asks K D) {c : Value} {dep : Int} {tk : Tok} {Q : Fin → Shared → Prop} (X : K.In s.heap) (I : Lies x D s.heap) (ty : Looks (model prog w) s.heap (typeOf c) (.type "type")) (it : Looks (model prog w) s.heap (isType c) true)
    (ne : (Value.ref D == c) = false) (sb : Looks (model prog w) s.heap (isSubtype (.ref D) c) false) (q : Q (.done (.ret (.bool false))) { s with toks := s.toks + 1 }) :
    wpAny (model prog w) A (Builtin.«isinstance.nested» ⟨[.ref x, c, .int dep tk], []⟩) Q E s := by
  obtain ⟨hp, gn, dw, tt, os⟩ := s
  have T0 : Looks (model prog w) hp (typeOf (.ref x)) (.ref D) := Lies.ty I
  have TD : Looks (model prog w) hp (isType (.ref D)) true := zbQ X Z.c
  have TI : Looks (model prog w) hp (isInstance (.ref x) c) false := T0.andThen sb
  unfold Builtin.«isinstance.nested»
  refine wpAny_bind (T0.at ?_)
  rw [if_neg (by rw [ne]; decide)]
  refine wpAny_bind (ty.at ?_)
  rw [if_pos (by decide)]
  k_delta "plainIsInstance"
  refine wpAny_bind (wpAny_bind (it.at ?_))
  simp only [Bool.not_true, Bool.false_eq_true, if_false]
  refine wpAny_bind (TI.at ?_)
  simp only [Bool.false_eq_true, if_false]
  refine wpAny_bind (Z.attr X I ?_)
  refine wpAny_bind (TD.at ?_)
  simp only [Bool.not_true, Bool.false_eq_true, if_false]
  refine wpAny_bind (wpAny_rule ?_)
  refine sb.at ?_
  first
    | exact wpAny_pure q
    | exact wpAny_pure (wpAny_pure q)
    | exact wpAny_bind (wpAny_pure (wpAny_pure q))
theorem Asks.not (Z : Asks K D) {Q : Value → Shared → Prop} (X : K.In s.heap) (I : Lies x D s.heap) (e : kin_not K D C = true) (q : Q (.bool false) { s with toks := s.toks + 1 }) : wpAny (model prog w) A (call (.builtin "isinstance") [.ref x, .ref C]) Q E s := by
  unfold kin_not at e
  simp only [Bool.and_eq_true, decide_eq_true_eq, beq_iff_eq] at e
  obtain ⟨⟨⟨e0, e1⟩, e2⟩, e3⟩ := e
  refine call_isinstance (S := fun _ R s => (K.In s.heap ∧ Lies x D s.heap) ∧ R (.ok (.ret (.bool false))) { s with toks := s.toks + 1 }) (fun _ _ _ _ _ hs => isinstance_outer (Z.nested hs.1.1 hs.1.2 (looks_typeIn hs.1.1 e2) (zbQ hs.1.1 e1) ?_ (looks_subIn hs.1.1 e3) hs.2) (by intro z; cases z)) ⟨⟨X, I⟩, q⟩
  exact Bool.eq_false_iff.mpr fun z => e0 (Value.ref.inj (beq_iff_eq.mp z))
end
end L2.LW
set_option maxHeartbeats 4000000
namespace L2.LW
open PySem PySem.Spec PySem.W PySem.Calls PyProof.Rows
noncomputable def ziF (K : PySem.W.Frag) (D : Addr) : Bool := findIn K (.ref D) "__getattribute__" == some (some (.builtin "BaseException.__getattribute__")) && findIn K (.ref D) "__getattr__" == some Option.none && (clsIn K D).isSome && findIn K (.ref D) "__class__" == some (some (.builtin "object.__class__")) && specialIn K (.builtin "object.__class__") "__get__" == some (some (.builtin "getset_descriptor.__get__")) &&
  takesIn K (.builtin "object.__class__") == some true && mroIn K D (.type "object") == some true && mroIn K D (.type "BaseException") == some true
noncomputable def apart (K : PySem.W.Frag) (CL : Nat → Addr) (cs : List Nat) : Bool := cs.all fun c => ziF K (CL c) && cs.all fun d => c == d || kin_not K (CL c) (CL d)
end L2.LW
set_option maxHeartbeats 4000000
namespace L2.LW
open PySem PySem.Spec PySem.W PySem.Calls PyProof.Rows
theorem ziG (a : Nat) : ∀ b : Nat, (a ^^^ b) + (a &&& b) = a ||| b := by
  induction a using Nat.strongRecOn with
  | ind a ih =>
    intro b
    by_cases h : a = 0
    · subst h; simp
    · have h1 := ih (a / 2) (by omega) (b / 2)
      have d1 := Nat.xor_div_two (a := a) (b := b)
      have d2 := Nat.and_div_two (a := a) (b := b)
      have d3 := Nat.or_div_two (a := a) (b := b)
      have m1 := Nat.xor_mod_two_eq_one (a := a) (b := b)
      have m2 : (a &&& b) % 2 = 1 ↔ a % 2 = 1 ∧ b % 2 = 1 := Nat.and_mod_two_eq_one
      have m3 : (a ||| b) % 2 = 1 ↔ a % 2 = 1 ∨ b % 2 = 1 := Nat.or_mod_two_eq_one
      rw [← d1, ← d2, ← d3] at h1
      omega
theorem zbR {a b : Int} (ha : 0 ≤ a) (hb : 0 ≤ b) : Builtin.bitAnd a b = ((a.toNat &&& b.toNat : Nat) : Int) := by
  unfold Builtin.bitAnd
  rw [decide_eq_true ha, decide_eq_true hb]
theorem zbS {a b : Int} (ha : 0 ≤ a) (hb : 0 ≤ b) : Builtin.bitOr a b = ((a.toNat ||| b.toNat : Nat) : Int) := by
  unfold Builtin.bitOr Builtin.bitAnd
  have e1 : ¬ (0 ≤ Builtin.bitNot a) := by unfold Builtin.bitNot; omega
  have e2 : ¬ (0 ≤ Builtin.bitNot b) := by unfold Builtin.bitNot; omega
  rw [decide_eq_false e1, decide_eq_false e2]
  have n1 : Builtin.bitNot (Builtin.bitNot a) = a := by unfold Builtin.bitNot; omega
  have n2 : Builtin.bitNot (Builtin.bitNot b) = b := by unfold Builtin.bitNot; omega
  show Builtin.bitNot (Builtin.bitNot (((Builtin.bitNot (Builtin.bitNot a)).toNat ||| (Builtin.bitNot (Builtin.bitNot b)).toNat : Nat) : Int)) = _
  rw [n1, n2]
  unfold Builtin.bitNot
  omega
theorem ziH {a b : Int} (ha : 0 ≤ a) (hb : 0 ≤ b) : Builtin.bitXor a b = ((a.toNat ^^^ b.toNat : Nat) : Int) := by
  unfold Builtin.bitXor
  rw [zbS ha hb, zbR ha hb, ← ziG a.toNat b.toNat]
  omega
section
variable {X : Cx}
theorem Zn : OpR X (binaryOp .BitAnd) (yw X.K (ze .band)) := by
  rintro pins s σ H x y v u Q I rx ry ⟨W, ds, r, wf, hs, hf, q⟩
  obtain ⟨d, e, rfl, h1, h2⟩ := xp hs
  replace hf : jU [d, e] = some r := hf
  unfold jU at hf
  split at hf
  case h_2 => cases hf
  rename_i a b z
  cases z
  split at hf
  case isFalse => cases hf
  rename_i hc
  cases hf
  cases h1.int; cases h2.int
  exact zfx pins s σ H _ _ v u Q I rx ry ⟨_, _, rfl, rfl, by show Q (.int (Builtin.bitAnd _ _)) H; rw [zbR hc.1 hc.2]; exact q _ H (.refl H) (.val (.int _))⟩
theorem VH : OpR X (binaryOp .BitOr) (yw X.K (ze .bor)) := by
  rintro pins s σ H x y v u Q I rx ry ⟨W, ds, r, wf, hs, hf, q⟩
  obtain ⟨d, e, rfl, h1, h2⟩ := xp hs
  replace hf : jV [d, e] = some r := hf
  unfold jV at hf
  split at hf
  case h_2 => cases hf
  rename_i a b z
  cases z
  split at hf
  case isFalse => cases hf
  rename_i hc
  cases hf
  cases h1.int; cases h2.int
  exact zfy pins s σ H _ _ v u Q I rx ry ⟨_, _, rfl, rfl, by show Q (.int (Builtin.bitOr _ _)) H; rw [zbS hc.1 hc.2]; exact q _ H (.refl H) (.val (.int _))⟩
theorem ziI : OpR X (binaryOp .BitXor) (yw X.K (ze .bxor)) := by
  rintro pins s σ H x y v u Q I rx ry ⟨W, ds, r, wf, hs, hf, q⟩
  obtain ⟨d, e, rfl, h1, h2⟩ := xp hs
  replace hf : ZY [d, e] = some r := hf
  unfold ZY at hf
  split at hf
  case h_2 => cases hf
  rename_i a b z
  cases z
  split at hf
  case isFalse => cases hf
  rename_i hc
  cases hf
  cases h1.int; cases h2.int
  exact zfz pins s σ H _ _ v u Q I rx ry ⟨_, _, rfl, rfl, by show Q (.int (Builtin.bitXor _ _)) H; rw [ziH hc.1 hc.2]; exact q _ H (.refl H) (.val (.int _))⟩
theorem wu : OpR X (binaryOp .LShift) (yw X.K (ze .shl)) := by
  rintro pins s σ H x y v u Q I rx ry ⟨W, ds, r, wf, hs, hf, q⟩
  obtain ⟨d, e, rfl, h1, h2⟩ := xp hs
  replace hf : jT [d, e] = some r := hf
  unfold jT at hf
  split at hf
  case h_2 => cases hf
  rename_i a b z
  cases z
  split at hf
  case isFalse => cases hf
  rename_i hc
  cases hf
  cases h1.int; cases h2.int
  exact zfv pins s σ H _ _ v u Q I rx ry ⟨_, _, rfl, rfl, ⟨by omega, by omega, by omega⟩, q _ H (.refl H) (.val (.int _))⟩
theorem ziJ : MtR X "int.bit_length" (fun x xs H Q => ∃ i, x = .int i ∧ xs = [] ∧ Q (.int (Builtin.Int.intBits i : Nat)) H) := by
  rintro pins s σ H x xs v us Q I rx rs ⟨i, rfl, rfl, q⟩
  obtain ⟨t, rfl⟩ := rx
  cases rs
  refine wpAny_call_entry PySem.F.slot_int_bit_length (typeIs_int s i t) PySem.F.entry_int_bit_length ?_ (PySem.F.args_int_bit_length_1 _)
  obtain ⟨hp, g, d, tk, os⟩ := s
  wp_walk
  exact ⟨_, rfl, .int _, H, I.tok _, ⟨_, rfl⟩, q⟩
end
section
variable {X : Cx} {fn : Nat → List D → Option SV} {o e f a : Expr} {co ce cf ca : E} {apos cpos : Pos}
theorem ziK (ha : IE X fn a ca) (hbase : attributeBase a "bit_length" X.env (eval a X.env) = eval a X.env := by rfl) (hline : (apos.endLine == cpos.line) = true := by rfl) :
    IE X fn (.Call (.Attribute a "bit_length" apos) [] [] cpos) (.prim .blen (.cons ca .nil)) :=
  .mk <| (zgf PySem.F.plainAttrs_int PySem.F.slot_int_bit_length PySem.F.type_int_bit_length ziJ ha.v hbase hline).imp fun σ H Q zz3 => by
    obtain ⟨W, ρ, r, hR, he, q⟩ := zz3
    simp only [xg, yI, yJ, jo1, jo2] at he
    obtain ⟨rs, ⟨r1, e1, rs', e3, rfl⟩, e4⟩ := he
    cases e3
    refine ⟨W, ρ, r1, hR, e1, fun v1 H1 s1 f1 => ?_⟩
    have hs := f1.sees
    have e5 : ZZ [zq r1] = some r := e4
    unfold ZZ at e5
    split at e5
    case h_2 => cases e5
    rename_i i z
    have z1 : zq r1 = .int i := by simpa using z
    rw [z1] at hs
    cases hs.int
    split at e5
    case isFalse => cases e5
    rename_i h0
    cases e5
    refine ⟨rfl, i, rfl, rfl, ?_⟩
    have e6 : Builtin.Int.intBits i = wC i.toNat := by
      unfold Builtin.Int.intBits wC
      have n : i.natAbs = i.toNat := by omega
      rw [n]
      by_cases c : i = 0
      · subst c; rfl
      · rw [if_neg (by simpa using c), if_neg (by omega)]
    rw [e6]
    exact q _ H1 s1 (.val (.int _))
theorem kg {H H' : Hp} {a : Addr} {u : HO} (s : Same H H') (h : Rd H a u) : Rd H' a u := by
  rcases h with h | ⟨o, h⟩
  · exact .inl (s _ _ h)
  · exact .inr ⟨o, s _ _ h⟩
theorem zbT (hu : X.A.units + 64 < cLine) (ha : IE X fn o co) (hb : IE X fn e ce) (hc : IE X fn f cf) (m : M2 X o "get" apos e f cpos) :
    IE X fn (.Call (.Attribute o "get" apos) [e, f] [] cpos) (.prim .dget (.cons co (.cons ce (.cons cf .nil)))) :=
  .mk <| (Qc (by omega) ha.v hb.v hc.v m).imp fun σ H Q zz3 => by
    obtain ⟨W, ρ, r, hR, he, q⟩ := zz3
    simp only [xg, yI, yJ, jo1, jo2] at he
    obtain ⟨rs, ⟨r1, e1, rs1, ⟨r2, e2, rs2, ⟨r3, e3, rs3, e4, rfl⟩, rfl⟩, rfl⟩, e5⟩ := he
    cases e4
    have e6 : Ya [zq r1, zq r2, zq r3] = some r := e5
    unfold Ya at e6
    split at e6
    case h_2 => cases e6
    rename_i ks vs k i z
    have z1 : zq r1 = .dct false ks vs := by simp at z; exact z.1
    have z2 : zq r2 = .int k := by simp at z; exact z.2.1
    have z3 : zq r3 = .int i := by simp at z; exact z.2.2
    refine ⟨W, ρ, r1, hR, e1, fun v1 H1 s1 f1 => ?_⟩
    have g1 := f1.sees
    rw [z1] at g1
    obtain ⟨b, ns, ys, rfl, rfl, hH, hl, rp⟩ := g1.dK
    refine ⟨b, rfl, .inl ⟨_, hH⟩, W, ρ, r2, hR.same s1, e2, fun v2 H2 s2 f2 => ⟨W, ρ, r3, hR.same (s1.trans s2), e3, fun v3 H3 s3 f3 => ?_⟩⟩
    have g2 := f2.sees
    rw [z2] at g2
    cases g2.int
    have g3 := f3.sees
    rw [z3] at g3
    cases g3.int
    refine ⟨yh (zT ns ys) (.inl k), .inl ⟨_, .inl k, kg (s2.trans s3) hH, rfl, rfl⟩, ?_⟩
    have go : ∀ j : Int, some (SV.val (.int j)) = some r → Q (.int j) H3 := fun j z => by
      cases z
      exact q _ H3 ((s1.trans s2).trans s3) (.val (.int _))
    split at e6
    · rename_i v hv
      obtain ⟨y, ey, ry⟩ := QC hl rp hv
      cases ry
      rw [ey]
      exact go v e6
    · rename_i hv
      have : yh (zT ns ys) (.inl k) = none := by
        rw [Ym hl]
        unfold dget at hv
        cases hk : yo (ns.map D.int) (.int k) with
        | none => rfl
        | some j =>
          rw [hk] at hv
          have hv : vs[j]? = none := hv
          show ys[j]? = none
          rw [List.getElem?_eq_none_iff] at hv ⊢
          rw [← rp.length]; exact hv
      rw [this]
      exact go i e6
    · cases e6
end
end L2.LW
set_option maxHeartbeats 4000000
namespace L2
open PySem PySem.Spec PyProof.Rows
noncomputable def Yz (K : PySem.W.Frag) (a : Addr) (xs : List V) : It :=
  ⟨fun i H => SqL K H a xs ∧ i < xs.length, fun i H x H' => H' = H ∧ xs[xs.length - 1 - i]? = some x, fun i H => SqL K H a xs ∧ i = xs.length⟩
theorem ziL {P : Program} {w : World} {K : PySem.W.Frag} {tg : Expr} (a it : Addr) (xs : List V) : Turn P w K tg (Yz K a xs) [it] it (fun i h => h.IsRevIter it a ((xs.length : Int) - 1 - (i : Int))) where
  mem := by simp
  obj := fun i h st b hb => by
    have e : b = it := by simpa using hb
    subst e
    obtain ⟨o, e, c, d⟩ := st
    exact ⟨o, e, fun v z => by rw [d] at z; cases z⟩
  keep := fun i h h' st k => st.at fun o e => k it (by simp) o e
  item := by
    intro X hP hw hK hc i pins s σ H E I hf st hg
    subst hP hw hK
    obtain ⟨hq, hi⟩ := hg
    obtain ⟨its, rv, p, hz⟩ := I.list hq
    have hx : xs[xs.length - 1 - i]? = some (xs[xs.length - 1 - i]'(by omega)) := List.getElem?_eq_getElem _
    obtain ⟨u, hu, ru⟩ := rv.get hx
    obtain ⟨f0, f1, f2, f3, f4, f5⟩ := hf it (by simp)
    have e1 : (xs.length : Int) - 1 - (i : Int) = ((xs.length - 1 - i : Nat) : Int) := by omega
    rw [e1] at st
    refine wpAny_pyNext_rev_item st p.isList (x := u) (by simpa using hu) fun h' st' sb => ?_
    have I1 : Inv X pins σ H { s with heap := h' } := I.turned (t' := s.toks) (fun b o hb e => (sb.2 b hb).trans e) f0 f1 f3 f4 f5
    have e2 : ((xs.length - 1 - i : Nat) : Int) - 1 = (xs.length : Int) - 1 - ((i + 1 : Nat) : Int) := by omega
    rw [e2] at st'
    obtain ⟨o, e, c, d⟩ := id st'
    exact ⟨u, rfl, ZK (s := { s with heap := h' }) e c d (by decide) ⟨_, H, I1, ru, ⟨rfl, hx⟩, st', fun b hb => (hf b hb).1⟩⟩
  done := by
    intro X hP hw hK hc i pins s σ H E I hf st hg
    subst hP hw hK
    obtain ⟨hq, hi⟩ := hg
    obtain ⟨f0, f1, f2, f3, f4, f5⟩ := hf it (by simp)
    have e1 : (xs.length : Int) - 1 - (i : Int) = -1 := by omega
    rw [e1] at st
    exact wpAny_pyNext_rev_end (I.ok.hd hc) st fun h' eb => ⟨rfl, I.turned (t' := s.toks) (fun b o hb e => eb b o hb e) f0 f1 f3 f4 f5⟩
  self := fun _ _ _ _ _ st h => wpAny_pyIter_revIter st h
section
variable {X : Cx} {tg : Expr}
noncomputable def ziM (K : PySem.W.Frag) (ta : TA) : TI := fun σ H R => ta σ H fun vs H1 => ∃ a xs, vs = [.ref a] ∧ SqL K H1 a xs ∧ R (Yz K a xs) H1
theorem ziN {e : Expr} {ta : TA} {p pos : Pos} (hg : Gl X "reversed") (hm : X.mg "reversed" = none) (ha : PA X [e] ta) (hs : starEach [e] X.env = [(false, eval e X.env)] := by rfl) : PI X tg (.Call (.Name "reversed" p) [e] [] pos) (ziM X.K ta) := by
  intro pins s σ H R I h
  refine Call_ (ja I hg hm boot_reversed (PyProof.Rows.callWith_type1 (zk (ha pos pins s σ H _ I h) fun us s1 ⟨vs, H1, I1, r1, q1⟩ => ?_) hs rfl))
  obtain ⟨a, xs, e, hq, q⟩ := q1
  subst e
  cases r1 with
  | cons r rr =>
    cases rr
    cases r
    obtain ⟨its, rv, pl, hz⟩ := I1.list hq
    refine call_reversed_list pl.isList ?_
    have hl := rv.length
    have st : (s1.heap.push (revObj a ((its.toArray.size : Int) - 1))).IsRevIter s1.heap.objs.size a ((xs.length : Int) - 1 - ((0 : Nat) : Int)) := ⟨_, Heap.get?_push_size _ rfl, rfl, by
      show Data.fields #[.ref a, rawInt ((its.toArray.size : Int) - 1)] = _
      rw [List.size_toArray, ← hl]
      simp⟩
    refine wpAny_pyIter_revIter (s := { s1 with heap := _ }) st ?_
    refine ⟨s1.heap.objs.size, [s1.heap.objs.size], _, _, H1, rfl, I1.kept (t' := s1.toks) fun b o e => Heap.get?_push_of_some _ e, ziL a _ xs, st, fun b hb => ?_, q⟩
    have e : b = s1.heap.objs.size := by simpa using hb
    subst e
    exact I1.fpOk (Nat.le_refl _) (I1.hok.fresh (Nat.le_refl _))
end
end L2
namespace L2.LW
open PySem PySem.Spec PySem.W PySem.Calls PyProof.Rows
theorem zbU {K : PySem.W.Frag} {a : Addr} {xs : List V} {ds : List D} {H' : Hp} {W' : Addr → Prop} (hq : SqL K H' a xs) (rp : Reps K W' H' ds xs) (k : Nat) :
    (k = ds.reverse.length → (Yz K a xs).stop k H') ∧ ∀ d, ds.reverse[k]? = some d → (Yz K a xs).go k H' ∧ ∀ x H'', (Yz K a xs).yld k H' x H'' → H'' = H' ∧ Rep K W' H' d x := by
  have ln := rp.length
  rw [List.length_reverse]
  refine ⟨fun e => ⟨hq, by omega⟩, fun d e => ?_⟩
  obtain ⟨hk, e2⟩ := List.getElem?_eq_some_iff.mp e
  rw [List.length_reverse] at hk
  rw [List.getElem_reverse] at e2
  have e3 : ds[xs.length - 1 - k]? = some d := by
    rw [← ln, ← e2]
    exact List.getElem?_eq_getElem _
  obtain ⟨v, e1, rv⟩ := rp.get e3
  refine ⟨⟨hq, by omega⟩, fun x H'' z => ?_⟩
  obtain ⟨z1, z2⟩ := z
  rw [e1] at z2
  cases z2
  exact ⟨z1, rv⟩
section
variable {X : Cx} {fn : Nat → List D → Option SV} {a tg : Expr} {ca : E} {pos p : Pos}
theorem ziO (hg : Gl X "reversed") (hm : X.mg "reversed" = Option.none) (ha : IA X fn [a] (.cons ca .nil)) (hs : starEach [a] X.env = (false, eval a X.env) :: starEach [] X.env) : Src X fn tg (.Call (.Name "reversed" p) [a] [] pos) false (.cons ca (.cons .non .nil)) :=
  .mk <| (ziN hg hm ha.h hs).imp fun σ H R0 zz3 => by
    obtain ⟨W, ρ, rs, ds, hR, h1, h2, q⟩ := zz3
    simp only [yI, yJ, jo1, jo2] at h1
    obtain ⟨r, e1, rs', ⟨r2, e2, rs2, e3, rfl⟩, rfl⟩ := h1
    cases e3
    have e2 : some (SV.val D.non) = some r2 := e2
    cases e2
    refine ⟨W, ρ, [r], hR, by simp only [yI, yJ, e1, Option.bind_some, Option.map_some], fun vs H1 s1 f => ?_⟩
    obtain ⟨v, rfl, g⟩ : ∃ v, vs = [v] ∧ Frz X.K W H1 r v := by
      cases f with
      | cons f t => cases t; exact ⟨_, rfl, f⟩
    clear f
    cases g with
    | val g =>
      cases g with
      | lst h rp =>
        simp only [zZ] at h2
        cases h2
        exact ⟨_, _, rfl, Vu h (Ext.refl W H1), q _ H1 s1 (fun W' H' s w k => zbU (Vu h (.sameW s w)) (rp.ext (.sameW s w)) k) fun _ W' H' x k => zbU (Vu h x) (rp.ext x) k⟩
      | _ => simp [zZ] at h2
    | _ => simp [zZ] at h2
end
end L2.LW
set_option maxHeartbeats 4000000
namespace L2
open PySem PySem.Spec PyProof.Rows
noncomputable def YA (a : Addr) (o : Obj) (kvs : List (zn × V)) : It :=
  ⟨fun i H => H a = some (.frz o (.dK kvs)) ∧ i < kvs.length, fun i H x H' => H' = H ∧ ∃ kv, kvs[i]? = some kv ∧ x = kV kv.1, fun i H => H a = some (.frz o (.dK kvs)) ∧ i = kvs.length⟩
theorem kh {X : Cx} {pins : List (Addr × Obj)} {σ : St} {H : Hp} {s : Shared} {a : Addr} {o : Obj} {kvs : List (zn × V)} {es : Array DictEntry} {ep : Nat} (I : Inv X pins σ H s) (e : H a = some (.frz o (.dK kvs))) (hd : o.data = .dict es ep) :
    ∃ vs, KV kvs vs ∧ s.heap.DictAt (yZ X.prog X.w) a vs ep ∧ (a == sysModules) = false := by
  obtain ⟨h1, h2, h3, vs, h4, o', es', ep', g1, g2, g3, g4⟩ := (show ObjOk X.prog X.w H s.heap a (.frz o (.dK kvs)) from I.hok a _ e)
  rw [h1] at g1
  cases g1
  rw [hd] at g3
  cases g3
  exact ⟨vs, h4, ⟨o, es, h1, g2, hd, g4⟩, h3⟩
theorem zbV : ∀ {kvs : List (zn × V)} {vs : List (zn × Value)}, Paired (fun (p : zn × V) (q : zn × Value) => p.1 = q.1 ∧ RelV p.2 q.2) kvs vs → ∀ {i : Nat} {kv : zn × V}, kvs[i]? = some kv → ∃ x, vs[i]? = some (kv.1, x)
  | _, _, .nil, i, kv, e => by simp at e
  | _, _, .cons (b := b) h t, 0, kv, e => by
    simp at e
    subst e
    exact ⟨b.2, by rw [h.1]; rfl⟩
  | _, _, .cons h t, i + 1, kv, e => zbV t (by simpa using e)
theorem ziP {P : Program} {w : World} {K : PySem.W.Frag} {tg : Expr} (a it : Addr) (o : Obj) (kvs : List (zn × V)) {es : Array DictEntry} {ep : Nat} (hd : o.data = .dict es ep) : Turn P w K tg (YA a o kvs) [it] it (fun i h => h.IsKeyIter it a i kvs.length ep) where
  mem := by simp
  obj := fun i h st b hb => by
    have e : b = it := by simpa using hb
    subst e
    obtain ⟨o, e, c, d⟩ := st
    exact ⟨o, e, fun v z => by rw [d] at z; cases z⟩
  keep := fun i h h' st k => st.at fun o e => k it (by simp) o e
  item := by
    intro X hP hw hK hc i pins s σ H E I hf st hg
    subst hP hw hK
    obtain ⟨hq, hi⟩ := hg
    obtain ⟨vs, kv, da, _⟩ := kh I hq hd
    have hx : kvs[i]? = some kvs[i] := List.getElem?_eq_getElem hi
    obtain ⟨x, hx2⟩ := zbV kv hx
    obtain ⟨f0, f1, f2, f3, f4, f5⟩ := hf it (by simp)
    have hl : kvs.length = vs.length := kv.length
    rw [hl] at st
    refine wpAny_pyNext_dict_item st da hx2 fun key h' hkey st' sb => ?_
    rw [← hl] at st'
    have I1 : Inv X pins σ H { s with heap := h' } := I.turned (t' := s.toks) (fun b o hb e => (sb.2 b hb).trans e) f0 f1 f3 f4 f5
    obtain ⟨o, e, c, d⟩ := id st'
    refine ⟨key, rfl, ZK (s := { s with heap := h' }) e c d (by decide) ⟨kV kvs[i].1, H, I1, ?_, ⟨rfl, _, hx, rfl⟩, st', fun b hb => (hf b hb).1⟩⟩
    rcases wM hkey with ⟨j, t, e1, e2⟩ | ⟨j, t, e1, e2⟩
    · rw [e1, e2]; exact ⟨t, rfl⟩
    · rw [e1, e2]; exact ⟨t, rfl⟩
  done := by
    intro X hP hw hK hc i pins s σ H E I hf st hg
    subst hP hw hK
    obtain ⟨hq, hi⟩ := hg
    obtain ⟨vs, kv, da, _⟩ := kh I hq hd
    have hl : kvs.length = vs.length := kv.length
    obtain ⟨f0, f1, f2, f3, f4, f5⟩ := hf it (by simp)
    rw [hl] at st
    exact wpAny_pyNext_dict_end (I.ok.hd hc) st da (by rw [hi, hl]; simp) fun h' eb => ⟨rfl, I.turned (t' := s.toks) (fun b o hb e => eb b o hb e) f0 f1 f3 f4 f5⟩
  self := fun _ _ _ _ _ st h => wpAny_pyIter_keyiter st h
section
variable {X : Cx} {tg : Expr}
noncomputable def ziQ (tl : TE) : TI := fun σ H R => tl σ H fun x H1 => ∃ a o kvs es ep, x = .ref a ∧ H1 a = some (.frz o (.dK kvs)) ∧ o.data = .dict es ep ∧ R (YA a o kvs) H1
theorem ziR {l : Expr} {tl : TE} (hl : PE X l tl) : PI X tg l (ziQ tl) := by
  intro pins s σ H R I h
  refine zk (hl pins s σ H _ I h) fun v s1 ⟨x, H1, I1, r1, q1⟩ => ?_
  obtain ⟨a, o, kvs, es, ep, e, hq, hd, q⟩ := q1
  subst e
  cases r1
  obtain ⟨vs, kv, da, lo⟩ := kh I1 hq hd
  have hl : kvs.length = vs.length := kv.length
  refine wpAny_pyIter_dict lo da ?_
  refine ⟨s1.heap.objs.size, [s1.heap.objs.size], _, _, H1, rfl, I1.kept (t' := s1.toks) fun b o e => Heap.get?_push_of_some _ e, ziP a _ o kvs hd, ⟨_, Heap.get?_push_size _ rfl, rfl, by rw [hl]; rfl⟩, fun b hb => ?_, q⟩
  have e : b = s1.heap.objs.size := by simpa using hb
  subst e
  exact I1.fpOk (Nat.le_refl _) (I1.hok.fresh (Nat.le_refl _))
end
section
variable {X : Cx} {pins : List (Addr × Obj)} {σ : St} {H : Hp} {s : Shared} {a : Addr} {kvs : List (zn × V)}
theorem Inv.still (I : Inv X pins σ H s) (e : H a = some (.dK kvs)) : ∃ o es ep, o.data = .dict es ep ∧ Inv X pins σ (zr H a (.frz o (.dK kvs))) s := by
  have ok : ObjOk X.prog X.w H s.heap a (.dK kvs) := I.hok a _ e
  obtain ⟨h1, h2, vs, h3, o, es, ep, g1, g2, g3, g4⟩ := id ok
  exact ⟨o, es, ep, g3, I.write (x := a) (e := a) (o := .frz o (.dK kvs)) (h' := s.heap) (t' := s.toks) (by rw [e]; exact True.intro) (.inl rfl) (fun b u _ q => q) ⟨o, g1⟩ ⟨g1, h1, h2, vs, h3, o, es, ep, g1, g2, g3, g4⟩⟩
theorem Inv.loose {o : Obj} (I : Inv X pins σ H s) (e : H a = some (.frz o (.dK kvs))) (n : ∀ o u, X.H₀ a ≠ some (.frz o u)) : Inv X pins σ (zr H a (.dK kvs)) s := by
  have ne : ∀ b, H b = none → b ≠ a := fun b hb z => by rw [z, e] at hb; cases hb
  refine { I with base := ⟨I.base.keep, I.base.slot, fun b ob q n' hx => ?_, I.base.there, fun b xs q => ?_, fun b ob u q => ?_, fun b ps q => ?_⟩, free := ?_, freeC := ?_, pin := ?_, hok := ?_ }
  · have := I.base.free b ob q n' hx
    rw [zw (ne b this)]; exact this
  · have := I.base.tups b xs q
    rw [zw (fun z => by rw [z, e] at this; cases this)]; exact this
  · have := I.base.frzs b ob u q
    rw [zw (fun z => n ob u (by rw [← z]; exact q))]; exact this
  · obtain ⟨m, z⟩ := I.base.tbls b ps q
    exact ⟨m, by rw [zw (fun y => by rw [y, e] at z; cases z)]; exact z⟩
  · rw [zw (ne _ I.free)]; exact I.free
  · intro x c h
    have := I.freeC x c h
    rw [zw (ne _ this)]; exact this
  · intro p hp
    obtain ⟨h1, h2, h3⟩ := I.pin p hp
    exact ⟨h1, by rw [zw (ne _ h2)]; exact h2, h3⟩
  · intro b u q
    have ho : ∀ c y, H c = some (.own y) → zr H a (.dK kvs) c = some (.own y) := fun c y hc => by
      rw [zw (fun z => by rw [z, e] at hc; cases hc)]; exact hc
    have ht : ∀ c xs, H c = some (.tup xs) → zr H a (.dK kvs) c = some (.tup xs) := fun c xs hc => by
      rw [zw (fun z => by rw [z, e] at hc; cases hc)]; exact hc
    by_cases hb : b = a
    · subst hb
      rw [yf] at q
      cases q
      obtain ⟨_, ok⟩ := (show ObjOk X.prog X.w H s.heap b (.frz o (.dK kvs)) from I.hok b _ e)
      exact ok.stay (fun _ _ _ q => q) (fun c hc => ho c _ hc) fun c xs hc => ht c xs hc
    · rw [zw hb] at q
      exact (I.hok b u q).stay (fun _ _ _ q => q) (fun c hc => ho c _ hc) fun c xs hc => ht c xs hc
end
end L2
namespace L2.LW
open PySem PySem.Spec PySem.W PySem.Calls PyProof.Rows
section
variable {K : PySem.W.Frag} {W : Addr → Prop} {H H' : Hp}
structure Swp (H H' : Hp) : Prop where
  d : ∀ b x, Rd H b (.dK x) → Rd H' b (.dK x)
  o : ∀ b u, (∀ x, u ≠ .dK x) → (∀ o x, u ≠ .frz o (.dK x)) → H b = some u → H' b = some u
theorem ziS (w : Swp H H') {a : Addr} {xs : List V} (h : (¬ W a ∧ Rd H a (.lst xs)) ∨ Yg K a xs) : (¬ W a ∧ Rd H' a (.lst xs)) ∨ Yg K a xs := by
  rcases h with ⟨n, h | ⟨o, h⟩⟩ | h
  · exact .inl ⟨n, .inl (w.o _ _ (fun _ z => nomatch z) (fun _ _ z => nomatch z) h)⟩
  · exact .inl ⟨n, .inr ⟨o, w.o _ _ (fun _ z => nomatch z) (fun _ _ z => nomatch z) h⟩⟩
  · exact .inr h
theorem ziT (w : Swp H H') {b : Addr} {kvs : List (List zn × V)} (h : H b = some (.dT kvs)) : H' b = some (.dT kvs) := w.o b _ (fun _ z => nomatch z) (fun _ _ z => nomatch z) h
theorem ziU (w : Swp H H') {b : Addr} {xs : List V} (h : H b = some (.tup xs)) : H' b = some (.tup xs) := w.o b _ (fun _ z => nomatch z) (fun _ _ z => nomatch z) h
mutual
theorem Rep.swap (w : Swp H H') : ∀ {d : D} {v : V}, Rep K W H d v → Rep K W H' d v
  | _, _, .int i => .int i
  | _, _, .bl b => .bl b
  | _, _, .non => .non
  | _, _, .str s => .str s
  | _, _, .dK n h l r => .dK n (w.d _ _ h) l (Reps.swap w r)
  | _, _, .dT n h l r => .dT n (ziT w h) l (Reps.swap w r)
  | _, _, .tup h r => .tup (ziU w h) (Reps.swap w r)
  | _, _, .lst h r => .lst (ziS w h) (Reps.swap w r)
theorem Reps.swap (w : Swp H H') : ∀ {ds : List D} {vs : List V}, Reps K W H ds vs → Reps K W H' ds vs
  | _, _, .nil => .nil
  | _, _, .cons h t => .cons (Rep.swap w h) (Reps.swap w t)
end
theorem ORep.swap (w : Swp H H') {d : D} {o : HO} (h : ORep K W H d o) : ORep K W H' d o := by
  cases h with
  | lst r => exact .lst (r.swap w)
  | dK l r => exact .dK l (r.swap w)
  | dT l r => exact .dT l (r.swap w)
theorem R.swap {ρ : LW.Env} {σ : St} (r : R K W ρ σ H) (w : Swp H H') (ow : ∀ a o, W a → H a = some o → H' a = some o) : R K W ρ σ H' := by
  refine ⟨fun i d h => ?_, r.nol, fun i x d h1 h2 => ?_, r.inj, fun a wa => ?_, r.len⟩
  · obtain ⟨v, e, q⟩ := r.val i d h
    exact ⟨v, e, q.swap w⟩
  · obtain ⟨a, o, e1, e2, e3, e4⟩ := r.own i x d h1 h2
    exact ⟨a, o, e1, e2, ow a o e2 e3, e4.swap w⟩
  · cases e : H a with
    | none => exact absurd e (r.wf a wa)
    | some o => rw [ow a o wa e]; exact fun z => nomatch z
theorem ziV {a : Addr} {o : Obj} {kvs : List (zn × V)} (e : H a = some (.dK kvs)) : Swp H (zr H a (.frz o (.dK kvs))) := by
  refine ⟨fun b x h => ?_, fun b u n1 n2 h => ?_⟩
  · by_cases z : b = a
    · subst z
      rcases h with h | ⟨o', h⟩
      · rw [e] at h; cases h; exact .inr ⟨o, yf⟩
      · rw [e] at h; cases h
    · rcases h with h | ⟨o', h⟩
      · exact .inl (by rw [zw z]; exact h)
      · exact .inr ⟨o', by rw [zw z]; exact h⟩
  · rw [zw (fun z => by rw [z, e] at h; cases h; exact n1 _ rfl)]; exact h
theorem ziW {a : Addr} {o : Obj} {kvs : List (zn × V)} (e : H a = some (.frz o (.dK kvs))) : Swp H (zr H a (.dK kvs)) := by
  refine ⟨fun b x h => ?_, fun b u n1 n2 h => ?_⟩
  · by_cases z : b = a
    · subst z
      rcases h with h | ⟨o', h⟩
      · rw [e] at h; cases h
      · rw [e] at h; cases h; exact .inl yf
    · rcases h with h | ⟨o', h⟩
      · exact .inl (by rw [zw z]; exact h)
      · exact .inr ⟨o', by rw [zw z]; exact h⟩
  · rw [zw (fun z => by rw [z, e] at h; cases h; exact n2 _ _ rfl)]; exact h
end
theorem ziX {K : PySem.W.Frag} {a : Addr} {o : Obj} {ns : List Int} {ys : List V} (hl : ns.length = ys.length) {H' : Hp} {W' : Addr → Prop} (hq : H' a = some (.frz o (.dK (zT ns ys)))) (k : Nat) :
    (k = (ns.map D.int).length → (YA a o (zT ns ys)).stop k H') ∧ ∀ d, (ns.map D.int)[k]? = some d → (YA a o (zT ns ys)).go k H' ∧ ∀ x H'', (YA a o (zT ns ys)).yld k H' x H'' → H'' = H' ∧ Rep K W' H' d x := by
  have ln := zbx hl
  rw [List.length_map]
  refine ⟨fun e => ⟨hq, by rw [ln]; exact e⟩, fun d e => ?_⟩
  rw [List.getElem?_map, jo2] at e
  obtain ⟨i, e1, rfl⟩ := e
  obtain ⟨hk, e2⟩ := List.getElem?_eq_some_iff.mp e1
  refine ⟨⟨hq, by rw [ln]; exact hk⟩, fun x H'' z => ?_⟩
  obtain ⟨z1, kv, z2, z3⟩ := z
  have : kv.1 = Sum.inl i := by
    unfold zT at z2
    rw [List.getElem?_zip_eq_some] at z2
    have := z2.1
    rw [List.getElem?_map, e1] at this
    simpa using this.symm
  rw [z3, this]
  exact ⟨z1, .int i⟩
section
variable {X : Cx} {fuel : Nat} {fa : Nat → List D → Option Ans} {sts : List Stmt} {ss : Ss} {x : Str} {p pos : Pos}
theorem ziY (i j : Nat) {y : Str} {px : Pos} (hp : PassesOwn (model X.prog X.w) X.A X.env X.xe) (hc : X.calm = true) (hN : X.N.Nodup) (hi : X.N[i]? = some x) (hx : wA X.env.scope x) (hj : X.N[j]? = some y) (hv : wz X.env.scope y) (hb : ISs X (zy fa fuel ss) sts)
    (hf : X.fn x = true ∨ X.env.scope.names.lookup x = some .local := by first | exact .inl rfl | exact .inr rfl | assumption) (hd : (y == ("__debug__" : Str)) = false := by decide) (hcd : (y == ("__classdict__" : Str)) = false := by decide)
    (hfo : ∀ x, foldedSetIterable (.Name y p) X.env x = pure x := by intro _; rfl) : IS X (zB fa fuel (.forK i j ss)) (.For (.Name x px) (.Name y p) sts [] pos) := by
  refine .mk ?_
  rintro pins s σ H D0 I ⟨W, ρ, z, hR, hz, q⟩
  simp only [zhl] at hz
  split at hz
  case isFalse => cases hz
  rename_i hfr
  have hfr := Yh hfr
  simp only [jo1] at hz
  obtain ⟨ks, e1, ⟨fl, ρ1⟩, e2, e3⟩ := hz
  unfold Yd at e1
  split at e1
  case h_2 => cases e1
  rename_i ks' vs hslot
  cases e1
  obtain ⟨rfl, rfl⟩ : fl = .nx ∧ z = (.nx, ρ1) := by
    cases fl <;> first | (cases e3; exact ⟨rfl, rfl⟩) | cases e3
  obtain ⟨v, h1, h2⟩ := hR.val j _ hslot
  cases h2 with
  | @dK a ns ys vs n h l r =>
    have core : ∀ {H1 : Hp} {o : Obj} {es : Array DictEntry} {ep : Nat} {D1 : Ends}, Inv X pins σ H1 s → R X.K W ρ σ H1 → H1 a = some (.frz o (.dK (zT ns ys))) → o.data = .dict es ep →
        (∀ W' σ' H', SPost X.K W ρ σ H1 W' ρ1 σ' H' → D1.nx σ' H') → wpAny (model X.prog X.w) X.A (exec (.For (.Name x px) (.Name y p) sts [] pos) X.env) (SP X pins D1) X.xe s := fun {H1 o es ep D1} I1 R1 hq hod q1 =>
      jM hp hc (ziR (yC hj hv hd hcd)) (vn hN hi hx hf) hb.h hfo pins s σ H1 D1 I1 ⟨_, h1, a, o, _, es, ep, rfl, hq, hod,
        za8 R1 hfr (fun W' H' x k => ziX l (x.frz _ _ _ hq) k) e2 fun W' σ' H' ps => q1 W' σ' H' ps⟩
    rcases h with h | ⟨o, h⟩
    · obtain ⟨o, es, ep, hod, I1⟩ := I.still h
      have R1 : R X.K W ρ σ (zr H a (.frz o (.dK (zT ns ys)))) := hR.swap (ziV h) fun b u wb hbu => by
        rw [zw (fun z => n (by rw [← z]; exact wb))]; exact hbu
      have n0 : ∀ o u, X.H₀ a ≠ some (.frz o u) := fun o u z => by
        have := I.base.frzs a o u z
        rw [h] at this; cases this
      refine wpAny_mono (core (D1 := { nx := fun σ' H' => ∃ W', SPost X.K W ρ σ (zr H a (.frz o (.dK (zT ns ys)))) W' ρ1 σ' H', rt := fun _ _ => False }) I1 R1 yf hod fun W' σ' H' ps => ⟨W', ps⟩) (fun f s' hs => ?_) fun _ _ e => e
      cases f with
      | next =>
        obtain ⟨σ', H', I', W', ps⟩ := hs
        have na : ¬ xo ρ σ a := fun z => n (R1.ownW z).1
        have ha : H' a = some (.frz o (.dK (zT ns ys))) := ps.keep a _ yf na
        have nw : ¬ W' a := fun w => by
          rcases ps.win a w with z | z
          · exact n z
          · rw [yf] at z; cases z
        refine ⟨σ', zr H' a (.dK (zT ns ys)), I'.loose ha n0, q W' σ' _ ⟨ps.r.swap (ziW ha) fun b u wb hbu => ?_, fun b u hbu no => ?_, fun b w => ?_, ps.wout, ps.io⟩⟩
        · rw [zw (fun z => nw (by rw [← z]; exact wb))]; exact hbu
        · by_cases z : b = a
          · subst z; rw [yf, ← h, hbu]
          · rw [zw z]
            exact ps.keep b u (by rw [zw z]; exact hbu) no
        · rcases ps.win b w with z | z
          · exact .inl z
          · by_cases y : b = a
            · exact absurd (by rw [← y]; exact w) nw
            · rw [zw y] at z; exact .inr z
      | brk => obtain ⟨_, _, _, z⟩ := hs; exact z.elim
      | cont => obtain ⟨_, _, _, z⟩ := hs; exact z.elim
      | ret u => obtain ⟨_, _, _, _, _, z⟩ := hs; exact z.elim
    · obtain ⟨_, _, _, vs', _, o', es, ep, g1, g2, g3, _⟩ := (show ObjOk X.prog X.w H s.heap a (.frz o (.dK (zT ns ys))) from I.hok a _ h)
      have e1 : o = o' := by
        have h1 := (show ObjOk X.prog X.w H s.heap a (.frz o (.dK (zT ns ys))) from I.hok a _ h).1
        rw [h1] at g1
        cases g1; rfl
      subst e1
      exact core I hR h g3 fun W' σ' H' ps => q W' σ' H' ps
end
end L2.LW
set_option maxHeartbeats 4000000
set_option maxRecDepth 100000
namespace L2.LW
open PySem PySem.Spec PySem.W PySem.Calls PyProof.Rows
open AutoSeq1 (wpAny_loadPart')
section
variable {prog : Program} {w : World} {A : Around} {E : Value → Shared → Prop} {s : Shared}
theorem ziZ {it t : Addr} {i : Nat} {items : Array Value} {x : Value} {Q : Value → Shared → Prop} (ht : s.heap.IsTupleIter it t i) (hl : s.heap.IsTuple t items) (hx : items[i]? = some x)
    (hQ : ∀ h', h'.IsTupleIter it t (i + 1) → Heap.SameBut it s.heap h' → Q x { s with heap := h' }) : wpAny (model prog w) A (Builtin.SmallTypes.nextOf (.ref it)) Q E s := by
  obtain ⟨ob, h1, h2, h3⟩ := id ht
  obtain ⟨ol, g1, _, nl, g2⟩ := hl
  unfold Builtin.SmallTypes.nextOf
  refine wpAny_bind (wpAny_callSpecial?_slot (name := Str.ofString "__next__") ht.typeIs F.slot_tuple_iterator_next (wpAny_call_entry F.slot_tuple_iterator_next ht.typeIs F.entry_tuple_iterator_next ?_ (F.args_tuple_iterator_next_1 _)))
  show wpAny _ _ (field (.ref it) 0 >>= _) _ _ s; refine wpAny_bind (wpAny_field h1 h3 (x := .ref t) rfl ?_)
  show wpAny _ _ (if (Value.ref t == Value.none) = true then _ else _) _ _ s; rw [if_neg (show ¬ ((Value.ref t == Value.none) = true) from Bool.false_ne_true)]
  show wpAny _ _ (field (.ref it) 1 >>= _) _ _ s; refine wpAny_bind (wpAny_field h1 h3 (x := .int i 0) rfl ?_)
  show wpAny _ _ (seqItems? (.ref t) >>= _) _ _ s; refine wpAny_bind (wpAny_seqItems g1 g2 ?_); simp only [Int.toNat_natCast, hx]
  refine wpAny_bind (wpAny_setField h1 h3 (by simp) (wpAny_pure ⟨x, rfl, wpAny_pure (hQ _ ⟨_, Heap.get?_update_self _ h1 (Obj.isFreed_of_fields (Obj.data_mapFields h3 _)), (Obj.cls_mapFields ..).trans h2, by rw [Obj.data_mapFields h3]; simp [rawInt]⟩ (Heap.SameBut.update ..))⟩))
theorem zi0 {it t : Addr} {i : Nat} {items : Array Value} {Q : Value → Shared → Prop} (hh : A.handled = Option.none) (ht : s.heap.IsTupleIter it t i) (hl : s.heap.IsTuple t items) (hx : items[i]? = Option.none)
    (hE : ∀ h' e, Heap.ExtBut it s.heap h' → (∃ o, h'.get? e = some o ∧ o.cls = .type "StopIteration") → E (.ref e) { s with heap := h' }) : wpAny (model prog w) A (Builtin.SmallTypes.nextOf (.ref it)) Q E s := by
  obtain ⟨ob, h1, h2, h3⟩ := id ht
  obtain ⟨ol, g1, _, nl, g2⟩ := hl
  unfold Builtin.SmallTypes.nextOf
  refine wpAny_bind (wpAny_callSpecial?_slot (name := Str.ofString "__next__") ht.typeIs F.slot_tuple_iterator_next (wpAny_call_entry F.slot_tuple_iterator_next ht.typeIs F.entry_tuple_iterator_next ?_ (F.args_tuple_iterator_next_1 _)))
  show wpAny _ _ (field (.ref it) 0 >>= _) _ _ s; refine wpAny_bind (wpAny_field h1 h3 (x := .ref t) rfl ?_)
  show wpAny _ _ (if (Value.ref t == Value.none) = true then _ else _) _ _ s; rw [if_neg (show ¬ ((Value.ref t == Value.none) = true) from Bool.false_ne_true)]
  show wpAny _ _ (field (.ref it) 1 >>= _) _ _ s; refine wpAny_bind (wpAny_field h1 h3 (x := .int i 0) rfl ?_)
  show wpAny _ _ (seqItems? (.ref t) >>= _) _ _ s; refine wpAny_bind (wpAny_seqItems g1 g2 ?_); simp only [Int.toNat_natCast, hx]
  refine wpAny_bind (wpAny_rule (wpAny_bind (wpAny_setField h1 h3 (by simp) ?_))); show wpAny _ _ (newExc (.type "StopIteration") [] >>= _) _ _ _
  refine wpAny_bind ?_; simp only [newExc, newTuple]; refine wpAny_bind (wpAny_newObj_type ?_ (by size_fits))
  refine wpAny_bind (m := firstArgMember _ _) (wpAny_of_eq (a := Value.none) (by first | rfl | (simp only [firstArgMember]; rfl)) (wpAny_newObj_type ?_ (by size_fits)))
  simp only [raiseNew]; refine wpAny_bind (wpAny_handled ?_); (first | rw [show A.in1.handled = Option.none from hh] | rw [hh])
  exact wpAny_bind (wpAny_pure (wpAny_throw (hE _ _ (((Heap.SameBut.update ..).extBut.push _).push _) ⟨_, Heap.get?_push_size _ rfl, rfl⟩)))
theorem zi1 {h h' : Heap} {a : Addr} {its : Array Value} (x : h.IsTuple a its) (e : ∀ o, h.get? a = some o → h'.get? a = some o) : h'.IsTuple a its := by
  obtain ⟨o, h1, r⟩ := x
  exact ⟨o, e o h1, r⟩
theorem zbW (hh : A.handled = Option.none) (it t : Addr) (ne : t ≠ it) (items : Array Value) : Draws prog w A it [it, t] items.size (fun i v => items[i]? = some v) (fun i h => h.IsTupleIter it t i ∧ h.IsTuple t items) where
  live := fun _ _ st => by obtain ⟨⟨o, h, _⟩, _⟩ := st; exact ⟨o, h⟩
  frame := fun _ _ _ st hk => ⟨st.1.at fun o e => hk it (by simp) o e, zi1 st.2 fun o e => hk t (by simp) o e⟩
  item := fun i s Q E hi st hQ => ziZ st.1 st.2 (x := items[i]) (by simp [hi]) fun h' ht' hs' => hQ _ h' s.toks (by simp [hi]) ⟨ht', st.2.extBut hs'.extBut ne⟩ hs'
  done := fun s Q E st hE => zi0 hh st.1 st.2 (by simp) hE
theorem zi2 (l : Addr) (items : Array Value) (n : Nat) (dct : Option Addr) (sl : Array (Option Value)) :
    Meets (Builtin.«enumerate.__new__» ⟨[.type "enumerate", .ref l], []⟩) (fun _ R s => s.heap.get? l = some { cls := .type "tuple", dict := dct, data := .seq items n, slots := sl } ∧
      R (.ok (.ret (.ref (s.heap.push { cls := .type "tuple_iterator", data := .fields #[.ref l, .int 0 0] }).objs.size)))
        { s with heap := (s.heap.push { cls := .type "tuple_iterator", data := .fields #[.ref l, .int 0 0] }).push { cls := .type "enumerate", data := .fields #[.none, .bool false, .ref s.heap.objs.size, rawInt 0, .none, .none] } }) :=
  .of_wp fun prog w A R s h => by
    obtain ⟨hp, g, d, tk, os⟩ := s; obtain ⟨hl, h⟩ := h
    have hsub := sub_enumerate
    have hT : Heap.IsTuple (Shared.heap ⟨hp, g, d, tk, os⟩) l items := ⟨_, hl, rfl, n, rfl⟩
    wp_walk using wpAny_loadPart' hl
    refine wpAny_stack_any fun st => wpAny_pure ?_
    split
    · rename_i c _ _ _ _ _
      cases (c == Value.type "enumerate")
      · wp_walk using wpAny_loadPart' hl, wpAny_pyIter_tuple hT
        exact ⟨_, rfl, h⟩
      · wp_walk using wpAny_loadPart' hl, wpAny_pyIter_tuple hT
        exact ⟨_, rfl, h⟩
    · wp_walk using wpAny_loadPart' hl, wpAny_pyIter_tuple hT
      exact ⟨_, rfl, h⟩
theorem zi3 {l : Addr} {items : Array Value} {Q : Value → Shared → Prop} (hL : s.heap.IsTuple l items)
    (h : ∀ h', IsEnum h' (s.heap.objs.size + 1) s.heap.objs.size 0 .none → h'.IsTupleIter s.heap.objs.size l 0 → h'.objs.size = s.heap.objs.size + 2 → (∀ b o, s.heap.get? b = some o → h'.get? b = some o) → Q (.ref (s.heap.objs.size + 1)) { s with heap := h' }) :
    wpAny (model prog w) A (call (.type "enumerate") [.ref l]) Q E s := by
  obtain ⟨⟨c, dct, dt, sl⟩, hl, hc, n, hd⟩ := hL
  replace hc : c = .type "tuple" := hc
  replace hd : dt = .seq items n := hd
  subst hc hd
  refine callType_new F.called_enumerate (by decide) (F.typeCall_enumerate_1 _) (F.newCall_enumerate_1 _) (fun obj => F.args_object_init_2 obj _) F.entry_enumerate_new (zi2 l items n dct sl) ⟨hl, ?_⟩
  have hz : (s.heap.push { cls := .type "tuple_iterator", data := .fields #[.ref l, .int 0 0] }).objs.size = s.heap.objs.size + 1 := Heap.size_push ..
  show _ ∧ _
  rw [hz]
  have he : IsEnum ((s.heap.push { cls := .type "tuple_iterator", data := .fields #[.ref l, .int 0 0] }).push { cls := .type "enumerate", data := .fields #[.none, .bool false, .ref s.heap.objs.size, rawInt 0, .none, .none] }) (s.heap.objs.size + 1) s.heap.objs.size 0 .none := by
    have := Heap.get?_push_size (s.heap.push { cls := .type "tuple_iterator", data := .fields #[.ref l, .int 0 0] }) (o := { cls := .type "enumerate", data := .fields #[.none, .bool false, .ref s.heap.objs.size, rawInt 0, .none, .none] }) rfl
    rw [hz] at this; exact this
  refine ⟨⟨_, he, rfl⟩, h _ he ⟨_, Heap.get?_push_of_some _ (Heap.get?_push_size _ rfl), rfl, rfl⟩ (by rw [Heap.size_push, hz]) fun b o x => Heap.get?_push_of_some _ (Heap.get?_push_of_some _ x)⟩
end
theorem zi4 {P : Program} {w : World} {K : PySem.W.Frag} {elts : List Expr} {kt : Nat} {pt : Pos} {xs : List V} (a it e : Addr) (ne : e ≠ it) :
    Turn P w K (.Tuple elts kt pt) (zbO xs.length (fun i => xs[i]?) fun H => SqT K H a xs) [e, it] e (fun i h => (∃ old, IsEnum h e it i old) ∧ h.IsTupleIter it a i) where
  mem := by simp
  obj := fun i h zz2 b hb => by
    obtain ⟨⟨old, st⟩, st2⟩ := zz2
    rcases List.mem_cons.mp hb with rfl | hb
    · exact ⟨_, st, fun v z => by cases z⟩
    · obtain rfl := List.mem_singleton.mp hb
      obtain ⟨o, e1, c, d⟩ := st2
      exact ⟨o, e1, fun v z => by rw [d] at z; cases z⟩
  keep := fun i h h' ⟨⟨old, st⟩, st2⟩ k => ⟨⟨old, k e (by simp) _ st⟩, st2.at fun o z => k it (by simp) o z⟩
  item := by
    intro X hP hw hK hc i pins s σ H E I hf ⟨⟨old, st⟩, st2⟩ ⟨hlt, hq⟩
    subst hP hw hK
    obtain ⟨its, rv, p, hz⟩ := I.tuple hq
    have p : s.heap.IsTuple a its.toArray := p
    have na : a ≠ it := fun z => by
      obtain ⟨o, q1, q2, _⟩ := p
      obtain ⟨o', q3, q4, _⟩ := st2
      rw [z, q3] at q1; cases q1
      rw [q2] at q4; simp at q4
    have nea : a ≠ e := fun z => by
      obtain ⟨o, q1, q2, _⟩ := p
      have st : s.heap.get? e = some _ := st
      rw [z, st] at q1; cases q1
      simp at q2
    have D := zbW (prog := X.prog) (w := X.w) (A := X.A.in1) (I.ok.hd hc) it a na its.toArray
    have hl := rv.length
    refine wpAny_pyNext_enum_itemD D st ⟨st2, p⟩ (by simp; omega) ne (by simp [ne, Ne.symm nea]) fun v h1 tk hv eo l1 tp sz kp => ?_
    obtain ⟨u, hu, ru⟩ := rv.get (show xs[i]? = some xs[i] by simp [hlt])
    have hv : its[i]? = some v := by simpa using hv
    rw [hu] at hv
    cases hv
    refine ⟨_, rfl, ziy (s := { s with heap := h1, toks := tk + 1 }) eo fun h2 en sb => ?_⟩
    have lt : e < s.heap.objs.size := Heap.lt_size st
    have lt2 : it < s.heap.objs.size := by obtain ⟨o, z, _⟩ := st2; exact Heap.lt_size z
    have I2 := ziw (h' := h2) (i := (i : Int)) (tk := tk) (k := tk + 1) I (hf e (by simp)) (hf it (by simp)) (fun b o n1 n2 z => (sb.2 b n1).trans (kp b o n1 n2 z)) ((sb.2 _ (Nat.ne_of_gt lt)).trans tp) ru
    refine ⟨.ref s.heap.objs.size, _, I2, rfl, ⟨_, _, I.fresh, rfl, rfl, by simp [hlt]⟩, ⟨⟨v, ?_⟩, l1.1.extBut sb.extBut (Ne.symm ne)⟩, fun b hb => ?_⟩
    · have e2 : ((i + 1 : Nat) : Int) = (i : Int) + 1 := by omega
      rw [e2]; exact en
    · have nb : b ≠ s.heap.objs.size := by
        rcases List.mem_cons.mp hb with rfl | hb
        · exact Nat.ne_of_lt lt
        · obtain rfl := List.mem_singleton.mp hb; exact Nat.ne_of_lt lt2
      rw [zw nb]; exact (hf b hb).1
  done := by
    intro X hP hw hK hc i pins s σ H E I hf ⟨⟨old, st⟩, st2⟩ ⟨hge, hq⟩
    subst hP hw hK
    obtain ⟨its, rv, p, hz⟩ := I.tuple hq
    have p : s.heap.IsTuple a its.toArray := p
    have na : a ≠ it := fun z => by
      obtain ⟨o, q1, q2, _⟩ := p
      obtain ⟨o', q3, q4, _⟩ := st2
      rw [z, q3] at q1; cases q1
      rw [q2] at q4; simp at q4
    have D := zbW (prog := X.prog) (w := X.w) (A := X.A.in1) (I.ok.hd hc) it a na its.toArray
    have hl : i = its.toArray.size := by rw [hge, rv.length]; simp
    subst hl
    exact wpAny_pyNext_enum_endD D st ⟨st2, p⟩ fun h' eb => ⟨rfl, zix (e := e) I (hf it (by simp)) fun b o hb z => eb b o hb z⟩
  self := fun _ _ _ _ _ ⟨⟨_, st⟩, _⟩ h => wpAny_pyIter_enum st h
section
variable {X : Cx} {fn : Nat → List D → Option SV} {e : Expr} {ce : E} {pos p : Pos} {elts : List Expr} {kt : Nat} {pt : Pos}
noncomputable def zi5 (K : PySem.W.Frag) (fn : Nat → List D → Option SV) (c : E) : TI := fun σ H R0 => ∃ W ρ l, R K W ρ σ H ∧ zg fn c ρ = some (.val (.tup l)) ∧ ∀ J H1, Same H H1 → YE K J W H1 (yM 0 l) → R0 J H1
theorem zi6 (hg : Gl X "enumerate") (hm : X.mg "enumerate" = Option.none) (he : IE X fn e ce) (hst : starEach [e] X.env = [(false, eval e X.env)]) :
    PI X (.Tuple elts kt pt) (.Call (.Name "enumerate" p) [e] [] pos) (zi5 X.K fn ce) := by
  intro pins s σ H R0 I ⟨W, ρ, l, hR, h1, q1⟩
  refine wpAny_Call_Name_kw (ja I hg hm PyProof.Rows.boot_enumerate ?_ (by decide) (by decide))
  have hA := (vp he.v wR hst) pos pins s σ H (fun vs H1 => ∃ v, vs = [v] ∧ Same H H1 ∧ Frz X.K W H1 (.val (.tup l)) v) I ⟨W, ρ, _, hR, h1, fun v H1 s1 f1 => ⟨v, rfl, s1, f1⟩⟩
  refine PyProof.Rows.callWith_type1 (zk hA fun us s1 ⟨vs, H1, I1, rv, v, hv, s01, f1⟩ => ?_) hst zm
  subst hv
  obtain ⟨u, rfl, ru⟩ := wQ rv
  cases f1 with
  | val h =>
    cases h with
    | @tup q xs ds hH rp =>
      cases ru
      obtain ⟨its, rv2, pl, hz⟩ := I1.tuple (SqT.of hH)
      refine zi3 pl fun h' en li sz kp => ?_
      refine wpAny_pyIter_enum en ?_
      have I2 : Inv X pins σ H1 { s1 with heap := h' } := I1.kept (t' := s1.toks) kp
      refine ⟨s1.heap.objs.size + 1, [s1.heap.objs.size + 1, s1.heap.objs.size], _, _, H1, rfl, I2, zi4 (xs := xs) q s1.heap.objs.size (s1.heap.objs.size + 1) (Nat.succ_ne_self _), ⟨⟨_, en⟩, li⟩, fun b hb => ?_, q1 _ H1 s01 (ziz (xs := xs) rp.length.symm (fun _ => rfl) (fun W' H' x => .of (x.tup _ _ hH)) fun W' H' x => rp.ext x)⟩
      rcases List.mem_cons.mp hb with rfl | hb
      · exact I1.fpOk (Nat.le_succ _) (I1.hok.fresh (Nat.le_succ _))
      · obtain rfl := List.mem_singleton.mp hb
        exact I1.fpOk (Nat.le_refl _) (I1.hok.fresh (Nat.le_refl _))
end
end L2.LW
set_option maxHeartbeats 4000000
namespace L2.LW
open PySem PySem.Spec PySem.W PySem.Calls PyProof.Rows
noncomputable def yL (X : Cx) (scope : Scope) (x y : Str) (s₃ : Shared) (H₃ : Hp) (fp : List Addr) (pins : List (Addr × Obj)) : Cx := { zW X scope x s₃ H₃ fp pins with N := x :: y :: X.N }
structure CompSc2 (X : Cx) (scope : Scope) (x y : Str) : Prop where
  one : CompSc X scope x
  nx : xz x X.N = X.N
  lx : scope.names.lookup x = some .local
  ly : scope.names.lookup y = some .local
  nd2 : (x :: y :: X.N).Nodup
section
variable {X : Cx} {scope : Scope} {x y : Str} {s₃ : Shared} {H₃ : Hp} {fp : List Addr} {pins ps : List (Addr × Obj)} {σ : St} {a b : Option V} {H : Hp} {s : Shared}
theorem zi7 (h : (zW X scope x s₃ H₃ fp pins).Ok) : (yL X scope x y s₃ H₃ fp pins).Ok := ⟨h.mod, h.kind, h.glob, h.blt, h.above, h.inj, h.has, h.cab, h.hd, h.frames, h.stk, h.exf, h.bs, h.bsz, h.noex, h.exfs, h.funs, h.frf⟩
theorem zi8 (h : (yL X scope x y s₃ H₃ fp pins).Ok) : (zW X scope x s₃ H₃ fp pins).Ok := ⟨h.mod, h.kind, h.glob, h.blt, h.above, h.inj, h.has, h.cab, h.hd, h.frames, h.stk, h.exf, h.bs, h.bsz, h.noex, h.exfs, h.funs, h.frf⟩
theorem zi9 (S : CompSc2 X scope x y) (J : Inv (yL X scope x y s₃ H₃ fp pins) ps (a :: b :: σ) H s) : Inv (zW X scope x s₃ H₃ fp pins) ps (a :: σ) H s := by
  obtain ⟨m, hm, hl⟩ := J.loc
  refine ⟨zi8 J.ok, J.os, J.bare, J.base, ⟨m, hm, fun i z v h1 h2 h3 => ?_⟩, J.cell, J.free, J.freeC, J.pin, J.hok, ?_⟩
  · cases i with
    | zero => exact hl 0 z v h1 h2 h3
    | succ i =>
      have h1 : (xz x X.N)[i]? = some z := h1
      rw [S.nx] at h1
      exact hl (i + 2) z v h1 h2 h3
  · have := J.len
    show σ.length + 1 = (x :: xz x X.N).length
    rw [S.nx]
    have e : σ.length + 1 + 1 = X.N.length + 1 + 1 := this
    rw [List.length_cons]; omega
theorem zja (S : CompSc2 X scope x y) (J : Inv (zW X scope x s₃ H₃ fp pins) ps (Option.none :: σ) H s) : Inv (yL X scope x y s₃ H₃ fp pins) ps (Option.none :: Option.none :: σ) H s := by
  obtain ⟨m, hm, hl⟩ := J.loc
  refine ⟨zi7 J.ok, J.os, J.bare, J.base, ⟨m, hm, fun i z v h1 h2 h3 => ?_⟩, J.cell, J.free, J.freeC, J.pin, J.hok, ?_⟩
  · match i with
    | 0 => cases h2
    | 1 => cases h2
    | i + 2 =>
      have h1 : X.N[i]? = some z := h1
      exact hl (i + 1) z v (by show (xz x X.N)[i]? = some z; rw [S.nx]; exact h1) h2 h3
  · have e : σ.length + 1 = (x :: xz x X.N).length := J.len
    rw [S.nx, List.length_cons] at e
    show σ.length + 1 + 1 = X.N.length + 1 + 1
    omega
theorem CompSc2.locX (S : CompSc2 X scope x y) : wA (yL X scope x y s₃ H₃ fp pins).env.scope x := .inl (lookup_relabel_local S.lx)
theorem CompSc2.locY (S : CompSc2 X scope x y) : wA (yL X scope x y s₃ H₃ fp pins).env.scope y := .inl (lookup_relabel_local S.ly)
theorem CompSc2.fnX (S : CompSc2 X scope x y) : (yL X scope x y s₃ H₃ fp pins).fn x = true ∨ (yL X scope x y s₃ H₃ fp pins).env.scope.names.lookup x = some .local := .inr (lookup_relabel_local S.lx)
theorem CompSc2.fnY (S : CompSc2 X scope x y) : (yL X scope x y s₃ H₃ fp pins).fn y = true ∨ (yL X scope x y s₃ H₃ fp pins).env.scope.names.lookup y = some .local := .inr (lookup_relabel_local S.ly)
structure CSt2 (X : Cx) (scope : Scope) (x y : Str) (s₃ : Shared) (H₃ : Hp) (fp : List Addr) (pins : List (Addr × Obj)) (σ : St) (tn : Nat → Heap → Prop) (H2 : Hp) (W : Addr → Prop) (L : Addr) (test : D → Option Bool) (elt : D → Option SV) (ds out : List D)
    (n k : Nat) (a b : Option V) (H' : Hp) (ys : List V) (out1 zL : List D) (s' : Shared) : Prop where
  inv : Inv (yL X scope x y s₃ H₃ fp pins) [] (a :: b :: σ) H' s'
  htn : tn k s'.heap
  hfp : ∀ b ∈ fp, H' b = Option.none
  hn : n = ds.length + 1 - k
  hk : k ≤ ds.length
  same : Same H2 H'
  lst : H' L = some (.lst ys)
  reps : Reps X.K (add W L) H' out1 ys
  hrest : yG test elt (ds.drop k) = some zL
  hout : out = out1 ++ zL
end
section
variable {X : Cx} {fn : Nat → List D → Option SV}
theorem zjb {e0 elt c : Expr} {x y : Str} {px py pos pos2 p pos3 pt : Pos} {kt : Nat} {scope : Scope} {cond ce ce0 : E} {pins : List (Addr × Obj)} {s : Shared} {σ : St} {H : Hp} {W : Addr → Prop} {ρ : LW.Env} {l out : List D} {use : Option (Value → Sem Unit)} {Qe : Value → Shared → Prop}
    (hcalm : X.calm = true) (S : CompSc2 X scope x y) (hg : Gl X "enumerate") (hm : X.mg "enumerate" = Option.none) (he : IE X fn e0 ce0) (hst : starEach [e0] X.env = [(false, eval e0 X.env)])
    (hcond : ∀ s₃ H₃ fp pins, IT (yL X scope x y s₃ H₃ fp pins) fn c cond) (helt : ∀ s₃ H₃ fp pins, IE (yL X scope x y s₃ H₃ fp pins) fn elt ce) (hfo : ∀ y, foldedSetIterable (.Call (.Name "enumerate" p) [e0] [] pos3) X.env y = pure y) (I : Inv X pins σ H s) (hR : R X.K W ρ σ H)
    (e1 : zg fn ce0 ρ = some (.val (.tup l))) (hline : l.length ≤ line) (e3 : yG (fun p => wV p fun a b => zv fn cond (some (.val a) :: some (.val b) :: ρ)) (fun p => wV p fun a b => zg fn ce (some (.val a) :: some (.val b) :: ρ)) (yM 0 l) = some out)
    (fin : ∀ (s4 : Shared) (fl : Flow) (m : Str → Option Value) (C L : Addr) (H' : Hp), s4.heap.Ns C m → (∀ h', Heap.SameBut C s4.heap h' → Inv X pins σ H' { s4 with heap := h' }) → Same H H' →
      Res X.K W H H' (.obj true (.lst out)) (.ref L) → compPost (model X.prog X.w) X.A X.xe use Qe (.ref L) C (.ok fl) s4) :
    wpAny (model X.prog X.w) X.A (comprehension (.ListComp elt [⟨.Tuple [.Name x px, .Name y py] kt pt, .Call (.Name "enumerate" p) [e0] [] pos3, [c], 0⟩] scope pos) scope X.env pos2 (newList []) false (eval (.Call (.Name "enumerate" p) [e0] [] pos3) X.env) use) Qe X.xe s := by
  have hclos := zbb (scope := scope) (env := X.env) (S.one.cells I.ok)
  refine wpAny_comprehension_free (use := use) rfl hfo hclos S.one.kind S.one.names ?_
  refine zk (zi6 (elts := [.Name x px, .Name y py]) (kt := kt) (pt := pt) hg hm he hst pins s σ H (fun J H2 => Same H H2 ∧ YE X.K J W H2 (yM 0 l)) I ⟨W, ρ, l, hR, e1, fun J H' s1 y => ⟨s1, y⟩⟩) fun v s1 h1 => zk h1 fun itv s2 h2 => ?_
  obtain ⟨it, fp, tn, J, H2, rfl, I2, T, st2, f2, sm, hy⟩ := h2
  refine wpAny_newObj_type (zbe S.one fun h₁ hns₁ hk₁ hc₁ => ?_)
  have hdl : (yM 0 l).length = l.length := kf 0 l
  generalize hds : yM 0 l = ds at *
  have I3 := I2.lnew (t' := s2.toks) (ys := []) (its := []) .nil (Nat.zero_le _)
  have hD : H2 s2.heap.objs.size = Option.none := I2.fresh
  generalize hL : s2.heap.objs.size = L at hD
  generalize hs3 : ({ s2 with heap := s2.heap.push { cls := .type "list", data := .seq ([] : List Value).toArray }, toks := s2.toks } : Shared) = s₃ at I3
  have hs3h : s₃.heap = s2.heap.push { cls := .type "list", data := .seq ([] : List Value).toArray } := by rw [← hs3]
  rw [hL] at I3
  generalize hH3 : zr H2 L (.lst []) = H₃ at I3
  have blt : ∀ b ∈ fp, b < s2.heap.objs.size := fun b hb => by
    obtain ⟨o, e, _⟩ := T.obj _ _ st2 b hb
    exact Heap.lt_size e
  have hlt : ∀ b ∈ fp, b < s₃.heap.objs.size := fun b hb => by rw [hs3h, Heap.size_push]; exact Nat.lt_succ_of_lt (blt b hb)
  have hf : ∀ b ∈ fp, xa X pins H₃ b := fun b hb => by
    refine ⟨?_, (f2 b hb).2⟩
    rw [← hH3, zw (by rw [← hL]; exact Nat.ne_of_lt (blt b hb))]
    exact (f2 b hb).1
  have keep1 : ∀ b o, s₃.heap.get? b = some o → h₁.get? b = some o := fun b o e => by
    rw [hs3h] at e
    exact hk₁ b o e
  have ns1 : h₁.Ns s₃.heap.objs.size fun _ => Option.none := by rw [hs3h]; exact hns₁
  have Ic := zja S (zbg (tk := s2.toks) S.one I3 hf hlt ns1 keep1 (by rw [hs3h]; exact hc₁))
  have fpc : ∀ {H' : Hp}, (∀ b ∈ fp, H' b = Option.none) → ∀ b ∈ fp, xa (yL X scope x y s₃ H₃ fp pins) [] H' b := fun {H'} hn b hb => zbj (H' := H') S.one I3 hf hlt hn b hb
  have win : ∀ b, add W L b → W b ∨ H2 b = Option.none := fun b w => by
    rcases w with w | rfl
    · exact .inl w
    · exact .inr hD
  have hRL : ∀ {H' : Hp} {ys : List V}, Same H2 H' → H' L = some (.lst ys) → R X.K (add W L) ρ σ H' := fun {H' ys} sm' e => (hR.same sm).add sm' hD e
  have lenO : out.length ≤ ds.length := Vz e3
  have loop : ∀ s' : Shared, s' = { s₃ with heap := h₁, toks := s2.toks } → codeAny (model X.prog X.w) X.A (.compLoop (.ListComp elt [⟨.Tuple [.Name x px, .Name y py] kt pt, .Call (.Name "enumerate" p) [e0] [] pos3, [c], 0⟩] scope pos) 0 (.ref it) (.ref L) (yL X scope x y s₃ H₃ fp pins).env)
      (compPost (model X.prog X.w) X.A X.xe use Qe (.ref L) s₃.heap.objs.size) s' := by
    rintro s' rfl
    refine zbi (fun n s' => ∃ k a b H' ys out1 zL, CSt2 X scope x y s₃ H₃ fp pins σ tn H2 W L (fun p => wV p fun a b => zv fn cond (some (.val a) :: some (.val b) :: ρ)) (fun p => wV p fun a b => zg fn ce (some (.val a) :: some (.val b) :: ρ)) ds out n k a b H' ys out1 zL s') ?_ (ds.length + 1)
      ⟨0, Option.none, Option.none, H₃, [], [], out, Ic, T.keep _ _ _ st2 (fun b hb o e => keep1 b o (by rw [hs3h]; exact Heap.get?_push_of_some _ e)), fun b hb => (hf b hb).1, rfl, Nat.zero_le _, by rw [← hH3]; exact yx hD _, by rw [← hH3]; exact yf, .nil, e3, rfl⟩
    rintro n s' ⟨k, ya, yb, H', ys, out1, zL, c'⟩
    obtain ⟨hstop, hgo⟩ := hy (add W L) H' (.sameW c'.same win) k
    by_cases hk : k < ds.length
    · have hd : ds[k]? = some ds[k] := by simp [hk]
      obtain ⟨g1, g2⟩ := hgo _ hd
      have crest := c'.hrest
      rw [QT hd] at crest
      simp only [yG, jo1] at crest
      obtain ⟨b, t1, t2⟩ := crest
      obtain ⟨dx, dx1, dx2⟩ := ke (by rw [hds]; exact hd : (yM 0 l)[k]? = some ds[k])
      rw [dx2] at t1 t2 g2
      have t1 : zv fn cond (some (.val (.int ((0 + k : Nat) : Int))) :: some (.val dx) :: ρ) = some b := t1
      refine zk (T.item (yL X scope x y s₃ H₃ fp pins) rfl rfl rfl hcalm k [] s' (ya :: yb :: σ) H' _ c'.inv (fpc c'.hfp) c'.htn g1) fun r s4 ⟨u, hr, h4⟩ => ?_
      subst hr
      refine zk h4 fun _ s5 ⟨xv, H5, I5, r5, y5, st5, fr5⟩ => ?_
      obtain ⟨sm5, rv⟩ := g2 xv H5 y5
      have I5' := I5.pinned (fpc fr5) (T.obj _ _ st5)
      obtain ⟨q, va, vb, rfl, hq, ra, rb⟩ : ∃ q va vb, xv = .ref q ∧ H5 q = some (.tup [va, vb]) ∧ Rep X.K (add W L) H5 (.int ((0 + k : Nat) : Int)) va ∧ Rep X.K (add W L) H5 dx vb := by
        cases rv with
        | tup hH rp =>
          cases rp with
          | cons ra rp =>
            cases rp with
            | cons rb rp => cases rp; exact ⟨_, _, _, rfl, hH, ra, rb⟩
      have pg : PG (yL X scope x y s₃ H₃ fp pins) (.Tuple [.Name x px, .Name y py] kt pt) (gv X.K 2 (JM (wB 0) (JM (wB 1) gs))) := zfc hcalm (gu (vn (i := 0) S.nd2 rfl S.locX S.fnX) (gu (vn (i := 1) S.nd2 rfl S.locY S.fnY) zfb))
      refine zk (pg _ s5 (ya :: yb :: σ) H5 (.ref q) u (fun σ' H' => σ' = some va :: some vb :: σ ∧ H' = H5) I5' r5 ⟨_, _, rfl, .of hq, rfl, _, _, rfl, _, _, rfl, rfl, rfl, rfl⟩) fun _ s6 ⟨σ6, H6, I6, q6, q7⟩ => ?_
      subst q6 q7
      have hRc := ((hRL (c'.same.trans sm5) (sm5 _ _ c'.lst)).cons rb).cons ra
      refine zk (wpAny_tests_one ((hcond s₃ H₃ fp pins).h _ s6 _ H6 (fun b' H7 => b' = b ∧ Same H6 H7) I6 ⟨add W L, _, b, hRc, t1, fun H7 s7 => ⟨rfl, s7⟩⟩)) fun ok s7 ⟨H7, I7, q7, m7⟩ => ?_
      subst q7
      have back : ∀ {s' : Shared} {H' : Hp}, Inv (yL X scope x y s₃ H₃ fp pins) ([] ++ jK fp s5.heap) (some va :: some vb :: σ) H' s' → tn (k + 1) s'.heap ∧ ∀ b ∈ fp, H' b = Option.none := fun {s' H'} J => by
        refine ⟨T.keep _ _ _ st5 fun b hb o e => (J.pin (b, o) (List.mem_append_right _ (List.mem_append_right _ (jL hb e)))).1, fun b hb => ?_⟩
        obtain ⟨o, e, d⟩ := T.obj _ _ st5 b hb
        exact (J.pin (b, o) (List.mem_append_right _ (List.mem_append_right _ (jL hb e)))).2.1
      have m57 := sm5.trans m7
      cases ok with
      | false =>
        rw [if_neg Bool.false_ne_true]
        have bk := back I7
        exact ⟨_, by have := c'.hn; omega, k + 1, some va, some vb, H7, ys, out1, zL, I7.unpinned, bk.1, bk.2, rfl, hk, c'.same.trans m57, m57 _ _ c'.lst, c'.reps.ext (.same m57), t2, c'.hout⟩
      | true =>
        rw [if_pos rfl]
        simp only [jo1, jo2] at t2
        obtain ⟨r8, t3, d8, t4, rest', t5, rfl⟩ := t2
        have t3 : zg fn ce (some (.val (.int ((0 + k : Nat) : Int))) :: some (.val dx) :: ρ) = some r8 := t3
        have hR7 := hRc.same m7
        refine zk ((helt s₃ H₃ fp pins).h _ s7 _ H7 (fun v H8 => Same H7 H8 ∧ Rep X.K (add W L) H8 d8 v) I7 ⟨add W L, _, r8, hR7, t3, fun v8 H8 m8 res => ⟨m8, (res.frz hR7.wf).toD t4⟩⟩) fun u8 s8 ⟨v8, H8, I8, rl8, m8, rp8⟩ => ?_
        have lst8 := m8 _ _ (m57 _ _ c'.lst)
        have lenY := c'.reps.length
        have lenT := congrArg List.length c'.hout
        rw [List.length_append, List.length_cons] at lenT
        have le := vz
        refine zk (XQ (X := yL X scope x y s₃ H₃ fp pins) _ s8 _ H8 (.ref L) [v8] (.ref L) [u8] (fun _ H9 => H9 = zr H8 L (.lst (ys ++ [v8]))) I8 rfl (.cons rl8 .nil) ⟨L, ys, v8, rfl, rfl, lst8, by omega, rfl⟩) fun _ s9 ⟨_, H9, I9, _, q9⟩ => ?_
        subst q9
        have bk := back I9
        have ext : Ext (add W L) H8 (add W L) (zr H8 L (.lst (ys ++ [v8]))) := by
          refine ⟨fun b o q n => ?_, fun b zs q => ?_, fun b o u q => ?_, fun b w => .inl w⟩
          · rw [zw (fun z => n (.inr z))]; exact q
          · rw [zw (fun z => by rw [z, lst8] at q; cases q)]; exact q
          · rw [zw (fun z => by rw [z, lst8] at q; cases q)]; exact q
        have smL : Same H2 (zr H8 L (.lst (ys ++ [v8]))) := fun b o q => by
          rw [zw (fun z => by rw [z, hD] at q; cases q)]
          exact m8 _ _ (m57 _ _ (c'.same _ _ q))
        exact ⟨_, by have := c'.hn; omega, k + 1, some va, some vb, _, ys ++ [v8], out1 ++ [d8], rest', I9.unpinned, bk.1, bk.2, rfl, hk, smL, yf, ((c'.reps.ext (.same (m57.trans m8))).ext ext).append (.cons (rp8.ext ext) .nil), t5, by rw [c'.hout]; simp⟩
    · have ek : k = ds.length := by have := c'.hk; omega
      refine zk (T.done (yL X scope x y s₃ H₃ fp pins) rfl rfl rfl hcalm k [] s' (ya :: yb :: σ) H' _ c'.inv (fpc c'.hfp) c'.htn (hstop ek)) fun r s4 ⟨hr, I4⟩ => ?_
      subst hr
      have I4 := zi9 S I4
      obtain ⟨m, hn, _⟩ := I4.loc
      have er := c'.hrest
      rw [List.drop_of_length_le (by omega), yG] at er
      cases er
      have eo := c'.hout
      rw [List.append_nil] at eo
      exact fin s4 _ m _ L H' hn (fun h' hs => zbh I3 hf I4 hs) (sm.trans c'.same) (by rw [eo]; exact .new (sm.free hD) c'.lst (.lst c'.reps))
  have st0 : tn 0 h₁ := T.keep _ _ _ st2 (fun b hb o e => keep1 b o (by rw [hs3h]; exact Heap.get?_push_of_some _ e))
  subst hs3 hL
  exact codeAny_compStart_list (loop _ rfl) (T.self X.A 0 _ _ _ st0 (loop _ rfl))
theorem zjc {e0 elt c : Expr} {x y : Str} {px py pos p pos3 pt : Pos} {kt : Nat} {scope : Scope} {cond ce ce0 : E} (hcalm : X.calm = true) (S : CompSc2 X scope x y) (hg : Gl X "enumerate") (hm : X.mg "enumerate" = Option.none) (he : IE X fn e0 ce0)
    (hst : starEach [e0] X.env = [(false, eval e0 X.env)]) (hcond : ∀ s₃ H₃ fp pins, IT (yL X scope x y s₃ H₃ fp pins) fn c cond) (helt : ∀ s₃ H₃ fp pins, IE (yL X scope x y s₃ H₃ fp pins) fn elt ce)
    (hfo : ∀ z, foldedSetIterable (.Call (.Name "enumerate" p) [e0] [] pos3) X.env z = pure z := by intro _; rfl) :
    IE X fn (.ListComp elt [⟨.Tuple [.Name x px, .Name y py] kt pt, .Call (.Name "enumerate" p) [e0] [] pos3, [c], 0⟩] scope pos) (.compE ce0 cond ce) := by
  refine .mk ?_
  rintro pins s σ H Q I ⟨W, ρ, r, hR, hev, q⟩
  simp only [zg9, jo1] at hev
  obtain ⟨r0, e1, l, e2, e3⟩ := hev
  have e2 : ∃ l', r0 = .val (.tup l') ∧ l' = l := by
    cases r0 with
    | val d => cases d with
      | tup l' => exact ⟨l', rfl, by simpa [Yb] using e2⟩
      | _ => cases e2
    | _ => cases e2
  obtain ⟨l', rfl, rfl⟩ := e2
  split at e3
  case isFalse => cases e3
  rename_i hline
  rw [jo2] at e3
  obtain ⟨out, e3, rfl⟩ := e3
  rw [eval_ListComp]
  refine zjb (use := Option.none) hcalm S hg hm he hst hcond helt hfo I hR e1 hline e3 fun s4 fl m C L H' hn back sm res => ?_
  exact ⟨m, hn, fun h' hs => ⟨.ref L, H', back h' hs, rfl, q _ H' sm res⟩⟩
noncomputable def zbX (sc : Scope) (N : List Str) (scope : Scope) (x y : Str) : Bool :=
  VB sc N scope x && decide (xz x N = N) && decide (scope.names.lookup x = some .local) && decide (scope.names.lookup y = some .local) && decide ((x :: y :: N).Nodup)
theorem zjd {scope sc : Scope} {N : List Str} {x y : Str} (hs : X.env.scope = sc) (hN : X.N = N) (h : zbX sc N scope x y = true) : CompSc2 X scope x y := by
  simp only [zbX, Bool.and_eq_true, decide_eq_true_eq] at h
  obtain ⟨⟨⟨⟨h1, h2⟩, h3⟩, h4⟩, h5⟩ := h
  exact ⟨ve hs hN h1, by rw [hN]; exact h2, h3, h4, by rw [hN]; exact h5⟩
end
end L2.LW
set_option maxHeartbeats 4000000
set_option maxRecDepth 100000
namespace L2.LW
open PySem PySem.Spec PySem.W PySem.Calls PyProof.Rows
section
variable {X : Cx} {cl : Nat → Value} {E : XK} {fa : Nat → List D → Option Ans} {fuel : Nat} {s : S} {st : Stmt}
theorem VI {o e f : Expr} {m : Str} {apos cpos : Pos} (h1 : starEach [e, f] X.env = (false, eval e X.env) :: starEach [f] X.env) (h2 : starEach [f] X.env = (false, eval f X.env) :: starEach [] X.env)
    (hb : attributeBase o m X.env (eval o X.env) = eval o X.env := by rfl) (hl : (apos.endLine == cpos.line) = true := by rfl) : M2 X o m apos e f cpos :=
  ⟨hb, by rw [h1, h2]; rfl, hl, by rw [h1, h2]; rfl⟩
end
end L2.LW
set_option maxHeartbeats 4000000
namespace L2.LW
open PySem PySem.Spec PySem.W PySem.Calls PyProof.Rows
section
variable {X : Cx}
theorem Zo (h : X.A.units + 64 < cLine) : X.A.units + 1 < cLine := by omega
theorem zje {a : Int} (h : 0 ≤ a) (n : Nat) : a / 2 ^ n = ((a.toNat >>> n : Nat) : Int) := by
  obtain ⟨k, rfl⟩ := Int.eq_ofNat_of_zero_le h
  rw [Nat.shiftRight_eq_div_pow]
  simp
theorem zjf : OpR X (binaryOp .RShift) (yw X.K (ze .shr)) := by
  rintro pins s σ H x y v u Q I rx ry ⟨W, ds, r, wf, hs, hf, q⟩
  obtain ⟨d, e, rfl, h1, h2⟩ := xp hs
  replace hf : Vf [d, e] = some r := hf
  unfold Vf at hf
  split at hf
  case h_2 => cases hf
  rename_i a b z
  cases z
  split at hf
  case isFalse => cases hf
  rename_i hc
  cases hf
  cases h1.int; cases h2.int
  exact zfw pins s σ H _ _ v u Q I rx ry ⟨_, _, rfl, rfl, hc.2.1, by show Q (.int (a / 2 ^ b.toNat)) H; rw [zje hc.1]; exact q _ H (.refl H) (.val (.int _))⟩
noncomputable def zjg : List V → Hp → VK → Prop := fun vs H Q => ∃ n : Int, vs = [.int n] ∧ ∀ p, H p = Option.none → Q (.ref p) (zr H p (.rng 0 n))
theorem zjh : CallR X (.type "range") zjg := by
  rintro pins s σ H xs us Q I rv ⟨n, rfl, q⟩
  obtain ⟨u, rfl, ⟨t, rfl⟩⟩ := rv.one
  exact call_range_1 ⟨.ref s.heap.objs.size, zr H s.heap.objs.size (.rng 0 n), I.laid (o := .rng 0 n) (fun _ _ q => Heap.get?_push_of_some _ q) (Nat.le_refl _) ⟨_, _, _, Heap.get?_push_size _ rfl⟩, rfl, q _ I.fresh⟩
noncomputable def zji : List V → Hp → VK → Prop := fun vs H Q => ∃ p n, vs = [.ref p] ∧ H p = some (.rng 0 n) ∧ 0 ≤ n ∧ n ≤ 1000 ∧ ∀ l, H l = Option.none → Q (.ref l) (zr H l (.lst ((List.range n.toNat).map fun (k : Nat) => V.int (k : Int))))
theorem zjj (hc : X.calm = true) : CallR X (.type "list") zji := by
  rintro pins s σ H xs us Q I rv ⟨p, n, rfl, hp, h0, h1, q⟩
  obtain ⟨u, rfl, ru⟩ := rv.one
  cases ru
  obtain ⟨t, u, v, e⟩ := I.hok p _ hp
  have hn : Builtin.Range.rangeSize 0 n 1 = (n.toNat : Nat) := by rw [rangeSize_one]; split <;> omega
  refine call_list_range (I.ok.hd hc) e (small_one (by omega) (by omega) (by omega) (by omega)) hn (by omega) fun h' tk acc c hk hS hacc => ?_
  have rv2 : Vals ((List.range n.toNat).map fun (k : Nat) => V.int (k : Int)) acc.toList := by
    have hl : acc.toList.length = n.toNat := by rw [Array.length_toList]; exact hacc.1
    have hi : ∀ (j : Nat) (v : Value), acc.toList[j]? = some v → ∃ t, v = Value.int (j : Int) t := fun j v z => by
      obtain ⟨t, e⟩ := hacc.2 j v (by simpa using z)
      exact ⟨t, by rw [e]; congr 1; omega⟩
    clear hS hacc
    generalize acc.toList = l at hl hi
    have gen : ∀ (l : List Value) (b : Nat), (∀ (j : Nat) (v : Value), l[j]? = some v → ∃ t, v = Value.int ((b + j : Nat) : Int) t) → Vals ((List.range' b l.length).map fun (k : Nat) => V.int (k : Int)) l := by
      intro l
      induction l with
      | nil => intro b _; exact .nil
      | cons x r ih =>
        intro b h
        rw [List.length_cons, List.range'_succ, List.map_cons]
        obtain ⟨t, e⟩ := h 0 x rfl
        refine .cons ⟨t, by rw [e]; simp⟩ (ih (b + 1) fun j v z => ?_)
        obtain ⟨t, e⟩ := h (j + 1) v (by simpa using z)
        exact ⟨t, by rw [e]; congr 2; omega⟩
    have := gen l 0 fun j v z => by simpa using hi j v z
    rw [hl, ← List.range_eq_range'] at this
    exact this
  refine ⟨.ref s.heap.objs.size, _, I.laid (h' := h') (t' := tk) (fun b o e => hk b o e) (Nat.le_refl _) (o := .lst ((List.range n.toNat).map fun (k : Nat) => V.int (k : Int))) ⟨?_, acc.toList, c, rv2, by rw [hS]⟩, rfl, q _ I.fresh⟩
  rw [List.length_map, List.length_range, ← vz]
  show n.toNat ≤ 16777216
  omega
end
section
variable {X : Cx} {fn : Nat → List D → Option SV} {o e a : Expr} {co ce ca : E} {apos cpos pos p p2 pos2 : Pos}
theorem Reps.nats {K : PySem.W.Frag} {W : Addr → Prop} {H : Hp} : ∀ ns : List Nat, Reps K W H (ns.map fun (n : Nat) => D.int (n : Int)) (ns.map fun (n : Nat) => V.int (n : Int))
  | [] => .nil
  | _ :: r => .cons (.int _) (Reps.nats r)
theorem zjk (hc : X.calm = true) (hg : Gl X "list") (hm : X.mg "list" = Option.none) (hg2 : Gl X "range") (hm2 : X.mg "range" = Option.none) (ha : IE X fn a ca)
    (hs : starEach [a] X.env = (false, eval a X.env) :: starEach [] X.env) (hs2 : starEach [.Call (.Name "range" p2) [a] [] pos2] X.env = (false, eval (.Call (.Name "range" p2) [a] [] pos2) X.env) :: starEach [] X.env) :
    IE X fn (.Call (.Name "list" p) [.Call (.Name "range" p2) [a] [] pos2] [] pos) (.prim .rngL (.cons ca .nil)) :=
  .mk <| (JX (zjj hc) hg hm PyProof.Rows.boot_list (vp (JX zjh hg2 hm2 boot_range (vp ha.v wR hs) (by decide) (by decide) hs) wR hs2) (by decide) (by decide) hs2).imp fun σ H Q zz3 => by
    obtain ⟨W, ρ, r, hR, he, q⟩ := zz3
    simp only [xg, yI, yJ, jo1, jo2] at he
    obtain ⟨rs, ⟨r1, e1, rs', e3, rfl⟩, e4⟩ := he
    cases e3
    have e5 : Qs [zq r1] = some r := e4
    unfold Qs at e5
    split at e5
    case h_2 => cases e5
    rename_i n z
    have z1 : zq r1 = .int n := by simpa using z
    split at e5
    case isFalse => cases e5
    rename_i h0
    cases e5
    refine ⟨W, ρ, r1, hR, e1, fun v1 H1 s1 f1 => ?_⟩
    have g1 := f1.sees
    rw [z1] at g1
    cases g1.int
    refine ⟨n, rfl, fun p hp => ⟨p, n, rfl, yf, h0.1, h0.2, fun l hl => ?_⟩⟩
    have s2 : Same H (zr (zr H1 p (.rng 0 n)) l (.lst ((List.range n.toNat).map fun (k : Nat) => V.int (k : Int)))) := s1.trans ((yx hp _).trans (yx hl _))
    exact q _ _ s2 (.new (s1.free ((yx hp _).free hl)) yf (.lst (Reps.nats _)))
theorem zjl (hu : X.A.units + 64 < cLine) (ha : IE X fn o co) (hb : IE X fn e ce) (m : M2 X o "get" apos e (.List [] p) cpos) :
    IE X fn (.Call (.Attribute o "get" apos) [e, .List [] p] [] cpos) (.prim .dgetL (.cons co (.cons ce (.cons (.lst .nil) .nil)))) :=
  .mk <| (Qc (by omega) ha.v hb.v (xY (fn := fn) zi).v m).imp fun σ H Q zz3 => by
    obtain ⟨W, ρ, r, hR, he, q⟩ := zz3
    simp only [xg, yI, yJ, jo1, jo2] at he
    obtain ⟨rs, ⟨r1, e1, rs1, ⟨r2, e2, rs2, ⟨r3, e3, rs3, e4, rfl⟩, rfl⟩, rfl⟩, e5⟩ := he
    cases e4
    have e3' : zg fn (.lst .nil) ρ = some r3 := e3
    have e3 : some (SV.obj true (.lst [])) = some r3 := e3
    cases e3
    have e6 : Qr [zq r1, zq r2, .lst []] = some r := e5
    unfold Qr at e6
    split at e6
    case h_2 => cases e6
    rename_i ks vs k z
    have z1 : zq r1 = .dct false ks vs := by simp at z; exact z.1
    have z2 : zq r2 = .int k := by simp at z; exact z.2
    refine ⟨W, ρ, r1, hR, e1, fun v1 H1 s1 f1 => ?_⟩
    have g1 := f1.sees
    rw [z1] at g1
    obtain ⟨b, ns, ys, rfl, rfl, hH, hl, rp⟩ := g1.dK
    refine ⟨b, rfl, .inl ⟨_, hH⟩, W, ρ, r2, hR.same s1, e2, fun v2 H2 s2 f2 => ⟨W, ρ, _, hR.same (s1.trans s2), e3', fun v3 H3 s3 f3 => ?_⟩⟩
    have g2 := f2.sees
    rw [z2] at g2
    cases g2.int
    refine ⟨yh (zT ns ys) (.inl k), .inl ⟨_, .inl k, kg (s2.trans s3) hH, rfl, rfl⟩, ?_⟩
    have rp3 := rp.ext (.same (s2.trans s3))
    split at e6
    · rename_i l hv
      obtain ⟨y, ey, ry⟩ := QC hl rp3 hv
      rw [ey]
      cases e6
      exact q _ H3 ((s1.trans s2).trans s3) (.val ry)
    · rename_i hv
      have : yh (zT ns ys) (.inl k) = none := by
        rw [Ym hl]
        unfold dget at hv
        cases hk : yo (ns.map D.int) (.int k) with
        | none => rfl
        | some j =>
          rw [hk] at hv
          have hv : vs[j]? = none := hv
          show ys[j]? = none
          rw [List.getElem?_eq_none_iff] at hv ⊢
          rw [← rp.length]; exact hv
      rw [this]
      cases e6
      exact q _ H3 ((s1.trans s2).trans s3) (.val (f3.toD rfl))
    · cases e6
end
end L2.LW
set_option maxHeartbeats 4000000
namespace L2.LW
open PySem PySem.Spec PySem.W PySem.Calls PyProof.Rows
noncomputable abbrev Kt := List (Nat × Addr × List Nat)
noncomputable def xK (kt : Kt) : List (zn × V) := kt.map fun t => (Sum.inl (t.1 : Int), V.ref t.2.1)
noncomputable def zS (kt : Kt) : Kn := kt.map fun t => (t.1, t.2.2)
noncomputable def yU (ns : List Nat) : List V := ns.map fun (n : Nat) => V.int (n : Int)
structure KI (H0 H : Hp) (d : Addr) (kt : Kt) : Prop where
  same : Same H0 H
  fr : H0 d = none
  dic : H d = some (.dK (xK kt))
  lis : ∀ t ∈ kt, H t.2.1 = some (.lst (yU t.2.2)) ∧ H0 t.2.1 = none
  nd : (kt.map fun t => t.2.1).Nodup
  kd : (kt.map fun t => t.1).Nodup
theorem KI.keep {H0 H H' : Hp} {d : Addr} {kt : Kt} (h : KI H0 H d kt) (s : Same H H') : KI H0 H' d kt :=
  ⟨h.same.trans s, h.fr, s _ _ h.dic, fun t ht => ⟨s _ _ (h.lis t ht).1, (h.lis t ht).2⟩, h.nd, h.kd⟩
theorem Zp (kt : Kt) (k : Nat) : yh (xK kt) (Sum.inl (k : Int)) = (kt.find? fun t => decide (t.1 = k)).map fun t => V.ref t.2.1 := by
  induction kt with
  | nil => rfl
  | cons t r ih =>
    show yh ((Sum.inl (t.1 : Int), V.ref t.2.1) :: xK r) _ = _
    by_cases e : t.1 = k
    · rw [jP (by rw [e]), List.find?_cons_of_pos (by simpa using e)]; rfl
    · rw [jQ (fun z => e (by have z' := Sum.inl.inj z; omega)), List.find?_cons_of_neg (by simpa using e)]; exact ih
theorem VJ (kt : Kt) (k : Nat) : zP (zS kt) k = (kt.find? fun t => decide (t.1 = k)).map fun t => t.2.2 := by
  unfold zP zS
  rw [List.find?_map, Option.map_map]
  rfl
theorem ki {kt : Kt} {t : Nat × Addr × List Nat} (ht : t ∈ kt) (kd : (kt.map fun t => t.1).Nodup) : kt.find? (fun s => decide (s.1 = t.1)) = some t := by
  induction kt with
  | nil => cases ht
  | cons s r ih =>
    rw [List.map_cons, List.nodup_cons] at kd
    rcases List.mem_cons.mp ht with rfl | ht
    · exact List.find?_cons_of_pos (by simp)
    · rw [List.find?_cons_of_neg (by
        simp only [decide_eq_true_eq]
        exact fun z => kd.1 (List.mem_map.mpr ⟨t, ht, z.symm⟩))]
      exact ih ht kd.2
theorem KI.put {H0 H : Hp} {d b : Addr} {kt : Kt} (h : KI H0 H d kt) {k : Nat} (hk : ∀ t ∈ kt, t.1 ≠ k) (l : List Nat) (hb : H b = some (.lst (yU l))) (hb0 : H0 b = none) (hbn : ∀ t ∈ kt, t.2.1 ≠ b) :
    KI H0 (zr H d (.dK (xK kt ++ [(Sum.inl (k : Int), V.ref b)]))) d (kt ++ [(k, b, l)]) := by
  have hbd : b ≠ d := XA hb h.dic (by intro z; cases z)
  have hne : ∀ t ∈ kt, t.2.1 ≠ d := fun t ht => XA (h.lis t ht).1 h.dic (by intro z; cases z)
  refine ⟨fun a o e => ?_, h.fr, ?_, fun t ht => ?_, ?_, ?_⟩
  · rw [zw (wN e h.fr)]; exact h.same _ _ e
  · rw [yf]; simp [xK]
  · rcases List.mem_append.mp ht with ht | ht
    · rw [zw (hne t ht)]; exact h.lis t ht
    · simp only [List.mem_singleton] at ht
      subst ht
      exact ⟨by rw [zw hbd]; exact hb, hb0⟩
  · rw [List.map_append, List.nodup_append]
    refine ⟨h.nd, by simp, fun a ha c hc => ?_⟩
    obtain ⟨t, ht, rfl⟩ := List.mem_map.mp ha
    simp only [List.map_cons, List.map_nil, List.mem_singleton] at hc
    rw [hc]; exact hbn t ht
  · rw [List.map_append, List.nodup_append]
    refine ⟨h.kd, by simp, fun a ha c hc => ?_⟩
    obtain ⟨t, ht, rfl⟩ := List.mem_map.mp ha
    simp only [List.map_cons, List.map_nil, List.mem_singleton] at hc
    rw [hc]; exact hk t ht
noncomputable def vf (kt : Kt) (k x : Nat) : Kt := kt.map fun s => if s.1 = k then (s.1, s.2.1, s.2.2 ++ [x]) else s
theorem zjm (kt : Kt) (k x : Nat) : (vf kt k x).map (fun t => t.1) = kt.map fun t => t.1 := by
  unfold vf
  rw [List.map_map]
  exact List.map_congr_left fun s _ => by simp only [Function.comp]; split <;> rfl
theorem zjn (kt : Kt) (k x : Nat) : (vf kt k x).map (fun t => t.2.1) = kt.map fun t => t.2.1 := by
  unfold vf
  rw [List.map_map]
  exact List.map_congr_left fun s _ => by simp only [Function.comp]; split <;> rfl
theorem zjo (kt : Kt) (k x : Nat) : xK (vf kt k x) = xK kt := by
  unfold vf xK
  rw [List.map_map]
  exact List.map_congr_left fun s _ => by simp only [Function.comp]; split <;> rfl
theorem zjp (kt : Kt) (k x : Nat) : zS (vf kt k x) = jj (zS kt) k x := by
  unfold vf zS jj
  rw [List.map_map, List.map_map]
  exact List.map_congr_left fun s _ => by simp only [Function.comp]; split <;> rfl
theorem zjq {kt : Kt} (nd : (kt.map fun t => t.2.1).Nodup) {s t : Nat × Addr × List Nat} (hs : s ∈ kt) (ht : t ∈ kt) (e : s.2.1 = t.2.1) : s = t := by
  induction kt with
  | nil => cases hs
  | cons u r ih =>
    rw [List.map_cons, List.nodup_cons] at nd
    rcases List.mem_cons.mp hs with h1 | h1
    · rcases List.mem_cons.mp ht with h2 | h2
      · rw [h1, h2]
      · exact absurd (List.mem_map.mpr ⟨t, h2, by rw [← e, h1]⟩) nd.1
    · rcases List.mem_cons.mp ht with h2 | h2
      · exact absurd (List.mem_map.mpr ⟨s, h1, by rw [e, h2]⟩) nd.1
      · exact ih nd.2 h1 h2
theorem zbY {kt : Kt} (nd : (kt.map fun t => t.1).Nodup) {s t : Nat × Addr × List Nat} (hs : s ∈ kt) (ht : t ∈ kt) (e : s.1 = t.1) : s = t := by
  have h1 := ki hs nd
  have h2 := ki ht nd
  rw [e, h2] at h1
  exact (Option.some.inj h1).symm
theorem KI.app {H0 H : Hp} {d : Addr} {kt : Kt} (h : KI H0 H d kt) {t : Nat × Addr × List Nat} (ht : t ∈ kt) (x : Nat) :
    KI H0 (zr H t.2.1 (.lst (yU (t.2.2 ++ [x])))) d (vf kt t.1 x) := by
  refine ⟨fun a o e => ?_, h.fr, ?_, fun s hs => ?_, ?_, ?_⟩
  · rw [zw (wN e (h.lis t ht).2)]; exact h.same _ _ e
  · rw [zw (XA h.dic (h.lis t ht).1 (by intro z; cases z)), zjo]; exact h.dic
  · obtain ⟨u, hu, rfl⟩ := List.mem_map.mp hs
    by_cases e : u.1 = t.1
    · have := zbY h.kd hu ht e
      subst this
      rw [if_pos rfl]
      exact ⟨yf, (h.lis u hu).2⟩
    · rw [if_neg e]
      rw [zw (fun z => e (by rw [zjq h.nd hu ht z]))]
      exact h.lis u hu
  · rw [zjn]; exact h.nd
  · rw [zjm]; exact h.kd
structure WK (m : Nat) (kt : Kt) : Prop where
  w : ∀ t ∈ kt, t.1 < 2 ^ m ∧ t.2.2.Nodup ∧ ∀ x ∈ t.2.2, x < m
theorem kj : ∀ (n : Nat) (l : List Nat), l.Nodup → (∀ x ∈ l, x < n) → l.length ≤ n
  | 0, l, _, h => by
    cases l with
    | nil => exact Nat.le_refl _
    | cons x r => exact absurd (h x (by simp)) (Nat.not_lt_zero _)
  | n + 1, l, nd, h => by
    have h1 := kj n (l.erase n) (nd.erase n) fun x hx => by
      have := h x (List.mem_of_mem_erase hx)
      have : x ≠ n := fun z => by subst z; exact (List.Nodup.not_mem_erase nd) hx
      omega
    have : l.length ≤ (l.erase n).length + 1 := by
      rw [List.length_erase]
      split <;> omega
    omega
theorem WK.short {m : Nat} {kt : Kt} (h : WK m kt) (kd : (kt.map fun t => t.1).Nodup) (hm : m ≤ 10) : kt.length < sizeLine := by
  have := kj (2 ^ m) (kt.map fun t => t.1) kd fun x hx => by
    obtain ⟨t, ht, rfl⟩ := List.mem_map.mp hx
    exact (h.w t ht).1
  rw [List.length_map] at this
  have h2 : 2 ^ m ≤ 2 ^ 10 := Nat.pow_le_pow_right (by decide) hm
  rw [← vz]
  show kt.length < 16777216
  omega
theorem WK.shortL {m : Nat} {kt : Kt} (h : WK m kt) {t : Nat × Addr × List Nat} (ht : t ∈ kt) (hm : m ≤ 10) : t.2.2.length < sizeLine := by
  have := kj m t.2.2 (h.w t ht).2.1 (h.w t ht).2.2
  rw [← vz]
  show t.2.2.length < 16777216
  omega
theorem WK.put {m : Nat} {kt : Kt} (h : WK m kt) {k : Nat} {b : Addr} {l : List Nat} (hk : k < 2 ^ m) (hl : l.Nodup) (hx : ∀ x ∈ l, x < m) : WK m (kt ++ [(k, b, l)]) := ⟨fun t ht => by
  rcases List.mem_append.mp ht with ht | ht
  · exact h.w t ht
  · simp only [List.mem_singleton] at ht
    subst ht
    exact ⟨hk, hl, hx⟩⟩
theorem WK.app {m : Nat} {kt : Kt} (h : WK m kt) (kd : (kt.map fun t => t.1).Nodup) {t : Nat × Addr × List Nat} (ht : t ∈ kt) {x : Nat} (hx : x < m) (hn : x ∉ t.2.2) : WK m (vf kt t.1 x) := ⟨fun s hs => by
  obtain ⟨u, hu, rfl⟩ := List.mem_map.mp hs
  by_cases e : u.1 = t.1
  · have := zbY kd hu ht e
    subst this
    rw [if_pos rfl]
    obtain ⟨h1, h2, h3⟩ := h.w u hu
    refine ⟨h1, List.nodup_append.mpr ⟨h2, by simp, fun a ha b hb => ?_⟩, fun y hy => ?_⟩
    · simp only [List.mem_singleton] at hb
      subst hb
      exact fun z => hn (by rw [← z]; exact ha)
    · rcases List.mem_append.mp hy with hy | hy
      · exact h3 y hy
      · simp only [List.mem_singleton] at hy
        rw [hy]; exact hx
  · rw [if_neg e]; exact h.w u hu⟩
section
variable {K : PySem.W.Frag} {H : Hp}
theorem R.nil0 : R K (fun _ => False) [] [] H := ⟨fun i d h => (by simp at h), fun i d h => (by simp at h), fun i x d h => (by simp at h), fun i j x y d e a h => (by simp at h), fun a w => w.elim, rfl⟩
theorem R.no {W : Addr → Prop} {ρ : LW.Env} {σ : St} (r : R K W ρ σ H) (x : Option V) : R K W (none :: ρ) (x :: σ) H := by
  refine ⟨fun i e hi => ?_, fun i e hi => ?_, fun i x e hi hc => ?_, fun i j x y d e a h1 h2 c1 c2 h3 h4 => ?_, r.wf, by simpa using r.len⟩
  · cases i with
    | zero => cases hi
    | succ i => exact r.val i e hi
  · cases i with
    | zero => cases hi
    | succ i => exact r.nol i e hi
  · cases i with
    | zero => cases hi
    | succ i => exact r.own i x e hi hc
  · cases i with
    | zero => cases h1
    | succ i =>
      cases j with
      | zero => cases h2
      | succ j => rw [r.inj i j x y d e a h1 h2 c1 c2 h3 h4]
theorem R.in_ {ρ : LW.Env} {σ : St} (r : R K (fun _ => False) ρ σ H) (n : Nat) : R K (fun _ => False) (some (.val (.int n)) :: ρ) (some (.int n) :: σ) H := r.cons (.int _)
end
theorem zbZ {K : PySem.W.Frag} {fn : Nat → List D → Option SV} {c : E} {ρ : LW.Env} {σ : St} {H : Hp} {Q : VK} {n : Int} (r : R K (fun _ => False) ρ σ H) (e : zg fn c ρ = some (.val (.int n))) (q : ∀ H', Same H H' → Q (.int n) H') : tE K fn c σ H Q :=
  ⟨_, ρ, _, r, e, fun v H' s res => by
    cases res with
    | val h => cases h; exact q H' s⟩
end L2.LW
set_option maxHeartbeats 4000000
namespace L2.LW
open PySem PySem.Spec PySem.W PySem.Calls PyProof.Rows
noncomputable abbrev e2 (p : Prim) (a b : E) : E := .prim p (.cons a (.cons b .nil))
noncomputable def VL : E := e2 .shl (.int 1) (.var 6)
noncomputable def km : Es := .cons (.int 1) (.cons (e2 .shl (.int 1) (.var 3)) .nil)
noncomputable def ko : E := e2 .eq (e2 .band (e2 .shr (.var 7) (.var 9)) (.int 1)) (.int 0)
noncomputable def kq : E := e2 .bor (.var 7) (e2 .shl (.int 1) (.var 9))
noncomputable def zjr : TS := JN zam (wB 5)
noncomputable def kr (K : PySem.W.Frag) (fn : Nat → List D → Option SV) : TS := ZM (XH K (yO 2)) (wB 6) (XR (yO 5) (tE K fn VL) (ZP (XN (yO 6) jN)))
noncomputable def ku : TS := XE (tB (zak (yO 10) (yO 5))) (XR (yO 5) (yO 10) (ZP jN)) XC
noncomputable def kw (K : PySem.W.Frag) : TS := XE (JS (jd (yw K (ze .nin)) (yO 9) (Qa (yO 5) (yO 10)))) (gq (gY K "list" zaa (Qa (yO 5) (yO 10)) (XN (yO 9) jN))) XC
noncomputable def kz (K : PySem.W.Frag) (fn : Nat → List D → Option SV) : TS := XE (tT K fn ko) (jI (JN (tE K fn kq) (wB 10)) (jI ku (kw K))) XC
noncomputable def kA (K : PySem.W.Frag) (fn : Nat → List D → Option SV) : TS := ZM (XH K (jd (gR K) (yO 4) (yO 8))) (wB 9) (kz K fn)
noncomputable def kB (K : PySem.W.Frag) (fn : Nat → List D → Option SV) : TS := ZM (XH K (zap (yO 5) (yO 7) (ZP jN))) (wB 8) (kA K fn)
noncomputable def kC (K : PySem.W.Frag) (fn : Nat → List D → Option SV) : TS := ZM (gz (Qw K fn km)) (wB 7) (kB K fn)
noncomputable abbrev yl (a0 a1 a2 : Option V) (m : Nat) (ta d : Addr) (x6 x7 x8 x9 x10 : Option V) : St := [a0, a1, a2, some (.int m), some (.ref ta), some (.ref d), x6, x7, x8, x9, x10]
theorem kD {b : Nat} (h : b < 64) : jT [.int 1, .int (b : Int)] = some (.val (.int ((2 ^ b : Nat) : Int))) := by
  show (if (0 : Int) ≤ 1 ∧ (1 : Int) < 1048576 ∧ (0 : Int) ≤ (b : Int) ∧ (b : Int) < 64 then zI (1 * 2 ^ (b : Int).toNat) else none) = _
  rw [if_pos ⟨by decide, by decide, by omega, by omega⟩]
  simp [zI]
theorem zjs {a b : Nat} (h : b < 64) : Vf [.int (a : Int), .int (b : Int)] = some (.val (.int ((a >>> b : Nat) : Int))) := by
  show (if (0 : Int) ≤ (a : Int) ∧ (0 : Int) ≤ (b : Int) ∧ (b : Int) < 64 then zI (((a : Int).toNat >>> (b : Int).toNat : Nat) : Int) else none) = _
  rw [if_pos ⟨by omega, by omega, by omega⟩]
  simp [zI]
theorem zjt {a b : Nat} : jU [.int (a : Int), .int (b : Int)] = some (.val (.int ((a &&& b : Nat) : Int))) := by
  show (if (0 : Int) ≤ (a : Int) ∧ (0 : Int) ≤ (b : Int) then zI (((a : Int).toNat &&& (b : Int).toNat : Nat) : Int) else none) = _
  rw [if_pos ⟨by omega, by omega⟩]
  simp [zI]
theorem zju {a b : Nat} : jV [.int (a : Int), .int (b : Int)] = some (.val (.int ((a ||| b : Nat) : Int))) := by
  show (if (0 : Int) ≤ (a : Int) ∧ (0 : Int) ≤ (b : Int) then zI (((a : Int).toNat ||| (b : Int).toNat : Nat) : Int) else none) = _
  rw [if_pos ⟨by omega, by omega⟩]
  simp [zI]
section
variable {K : PySem.W.Frag} {fn : Nat → List D → Option SV} {H0 H : Hp} {D0 : Ends} {a0 a1 a2 x6 x7 x8 x9 x10 : Option V} {m : Nat} {ta d : Addr} {kt : Kt}
theorem zjv {more : Nat} (h : KI H0 H d kt) (w : WK m kt) (hm : m ≤ 10) (hmo : more < 2 ^ m)
    (q : ∀ kt1 H1, KI H0 H1 d kt1 → WK m kt1 → zS kt1 = wE (zS kt) more → (∃ t ∈ kt1, t.1 = more) → (∀ t ∈ kt, t ∈ kt1) → D0.nx (yl a0 a1 a2 m ta d x6 x7 x8 x9 (some (.int more))) H1) :
    ku D0 (yl a0 a1 a2 m ta d x6 x7 x8 x9 (some (.int more))) H := by
  refine ⟨_, rfl, _, rfl, d, _, rfl, DGet.k (k := Sum.inl (more : Int)) h.dic, _, rfl, ?_⟩
  rw [Zp]
  cases e : kt.find? fun t => decide (t.1 = more) with
  | some t =>
    refine XU ?_
    have ht := List.mem_of_find?_eq_some e
    have h1 : t.1 = more := by simpa using List.find?_some e
    refine q kt H h w ?_ ⟨t, ht, h1⟩ fun _ z => z
    unfold wE
    rw [VJ, e]
    rfl
  | none =>
    refine XV ?_
    refine ⟨Nat.zero_le _, fun p hp => ?_⟩
    have h2 := h.keep (yx hp (.lst []))
    have hk : ∀ t ∈ kt, t.1 ≠ more := fun t ht z => by
      have := List.find?_eq_none.mp e t ht
      simp [z] at this
    have hv : yh (xK kt) (Sum.inl (more : Int)) = none := by rw [Zp, e]; rfl
    refine ⟨_, rfl, _, rfl, d, _, rfl, DPut.k (k := Sum.inl (more : Int)) h2.dic (by rw [xK, List.length_map]; exact w.short h.kd hm), ?_⟩
    rw [zad _ hv]
    refine q _ _ (h2.put hk [] yf (h.same.free hp) fun t ht => wN (h.lis t ht).1 hp) (w.put hmo List.nodup_nil fun x hx => nomatch hx) ?_ ⟨_, List.mem_append_right _ (List.mem_singleton.mpr rfl), rfl⟩ fun t ht => List.mem_append_left _ ht
    unfold wE
    rw [VJ, e]
    simp [zS]
theorem zb0 : ∀ ns : List Nat, (zQ ns).all (zD 8) = true
  | [] => rfl
  | _ :: r => by
    show (true && (zQ r).all (zD 8)) = true
    rw [zb0 r]; rfl
theorem zb1 (o : Nat) : ∀ ns : List Nat, (zQ ns).any (fun y => zE y (.int (o : Int))) = decide (o ∈ ns)
  | [] => rfl
  | n :: r => by
    show (zE (.int (n : Int)) (.int (o : Int)) || (zQ r).any _) = _
    rw [zb1 o r]
    have : zE (.int (n : Int)) (.int (o : Int)) = decide (o = n) := by
      simp only [zE]
      by_cases z : o = n
      · subst z; simp
      · have : (n : Int) ≠ (o : Int) := by omega
        simp [z, this]
    rw [this]
    simp
theorem zjw {more o : Nat} {t : Nat × Addr × List Nat} (h : KI H0 H d kt) (w : WK m kt) (hm : m ≤ 10) (ht : t ∈ kt) (e : t.1 = more) (ho : o < m)
    (q : ∀ kt1 H1, KI H0 H1 d kt1 → WK m kt1 → zS kt1 = jk (zS kt) more o → (∀ t ∈ kt, t.1 ≠ more → t ∈ kt1) → D0.nx (yl a0 a1 a2 m ta d x6 x7 x8 (some (.int o)) (some (.int more))) H1) :
    kw K D0 (yl a0 a1 a2 m ta d x6 x7 x8 (some (.int o)) (some (.int more))) H := by
  have hf : kt.find? (fun t => decide (t.1 = more)) = some t := by rw [← e]; exact ki ht h.kd
  have hg : zP (zS kt) more = some t.2.2 := by rw [VJ, hf]; rfl
  have hv : DGet H d (.int (more : Int)) (some (.ref t.2.1)) := by
    have := DGet.k (k := Sum.inl (more : Int)) h.dic
    rw [Zp, hf] at this
    exact this
  have hl := (h.lis t ht).1
  refine ⟨_, rfl, _, rfl, _, rfl, d, _, rfl, hv, fun _ => False, [.int (o : Int), .lst (zQ t.2.2)], .val (.bl (!decide (o ∈ t.2.2))), fun _ z => z.elim, ?_, ?_, fun v H1 s1 res => ?_⟩
  · exact .cons (.inl (.int _)) (.cons (.inr ⟨_, _, rfl, hl, .lst (Reps.nats _)⟩) .nil)
  · show (if (zD 8 (.int (o : Int)) && (zQ t.2.2).all (zD 8)) = true then ym (!(zQ t.2.2).any fun y => zE y (.int (o : Int))) else none) = _
    rw [if_pos (by rw [zb0]; rfl), zb1]
    rfl
  · cases res with
    | val hr =>
      cases hr
      have h1 := h.keep s1
      have hv1 : DGet H1 d (.int (more : Int)) (some (.ref t.2.1)) := by
        have := DGet.k (k := Sum.inl (more : Int)) h1.dic
        rw [Zp, hf] at this
        exact this
      refine ⟨_, rfl, ?_⟩
      by_cases ho2 : o ∈ t.2.2
      · rw [decide_eq_true ho2]
        refine XU ?_
        refine q kt H1 h1 w ?_ fun _ z _ => z
        unfold jk
        rw [hg]
        exact (if_pos ho2).symm
      · rw [decide_eq_false ho2]
        refine XV ?_
        refine ⟨_, rfl, _, rfl, d, _, rfl, hv1, .inl ⟨rfl, _, SqL.of (h1.lis t ht).1⟩, _, rfl, ?_⟩
        refine ⟨t.2.1, _, _, rfl, rfl, (h1.lis t ht).1, by rw [yU, List.length_map]; exact w.shortL ht hm, ?_⟩
        have e1 : yU t.2.2 ++ [V.int (o : Int)] = yU (t.2.2 ++ [o]) := by simp [yU]
        rw [e1]
        refine q _ _ (h1.app ht o) (w.app h.kd ht ho ho2) ?_ fun s hs hn => List.mem_map.mpr ⟨s, hs, if_neg (by rw [e]; exact hn)⟩
        rw [zjp, e]
        unfold jk
        rw [hg]
        exact (if_neg ho2).symm
end
end L2.LW
set_option maxHeartbeats 4000000
namespace L2.LW
open PySem PySem.Spec PySem.W PySem.Calls PyProof.Rows
theorem zjx {zf o m : Nat} (h : zf < 2 ^ m) (ho : o < m) : zf ||| 2 ^ o < 2 ^ m := Nat.or_lt_two_pow h (Nat.pow_lt_pow_right (by decide) ho)
theorem zjy {zf o : Nat} (h : (zf >>> o) &&& 1 = 0) : zf ||| 2 ^ o ≠ zf := fun z => by
  have h1 : Nat.testBit (zf ||| 2 ^ o) o = true := by rw [Nat.testBit_or, Nat.testBit_two_pow_self]; simp
  rw [z] at h1
  have h2 : (zf >>> o) % 2 = 0 := by rw [← Nat.and_one_is_mod]; exact h
  rw [Nat.shiftRight_eq_div_pow] at h2
  rw [Nat.testBit_eq_decide_div_mod_eq] at h1
  simp at h1
  omega
section
variable {K : PySem.W.Frag} {fn : Nat → List D → Option SV} {H0 H : Hp} {D0 : Ends} {a0 a1 a2 x6 x7 x8 x9 x10 : Option V} {m : Nat} {ta d : Addr} {kt : Kt}
theorem zjz {zf here o : Nat} (h : KI H0 H d kt) (w : WK m kt) (hm : m ≤ 10) (hma : zf < 2 ^ m) (ho : o < m)
    (q : ∀ kt1 H1 x10, KI H0 H1 d kt1 → WK m kt1 → zS kt1 = wF zf (zS kt) o → (∀ t ∈ kt, t.1 = zf → t ∈ kt1) → D0.nx (yl a0 a1 a2 m ta d x6 (some (.int zf)) x8 (some (.int o)) x10) H1) :
    kz K fn D0 (yl a0 a1 a2 m ta d x6 (some (.int zf)) x8 (some (.int o)) x10) H := by
  have r0 : ∀ {H : Hp} {x10 : Option V}, R K (fun _ => False) [none, none, none, none, none, none, none, some (.val (.int (zf : Int))), none, some (.val (.int (o : Int))), none] (yl a0 a1 a2 m ta d x6 (some (.int zf)) x8 (some (.int o)) x10) H := fun {H x10} =>
    (((((((((((R.nil0.no _).in_ o).no _).in_ zf).no _).no _).no _).no _).no _).no _).no _)
  have ev1 : zv fn ko [none, none, none, none, none, none, none, some (.val (.int (zf : Int))), none, some (.val (.int (o : Int))), none] = some (decide ((zf >>> o) &&& 1 = 0)) := by
    have l7 : zg fn (.var 7) [none, none, none, none, none, none, none, some (.val (.int (zf : Int))), none, some (.val (.int (o : Int))), none] = some (.val (.int (zf : Int))) := rfl
    have l9 : zg fn (.var 9) [none, none, none, none, none, none, none, some (.val (.int (zf : Int))), none, some (.val (.int (o : Int))), none] = some (.val (.int (o : Int))) := rfl
    have p1 : ze .shr [.int (zf : Int), .int (o : Int)] = _ := zjs (by omega)
    have p2 : ze .band [.int ((zf >>> o : Nat) : Int), .int (1 : Int)] = _ := zjt (a := zf >>> o) (b := 1)
    have p3 : ze .eq [.int (((zf >>> o) &&& 1 : Nat) : Int), .int 0] = some (.val (.bl (decide ((zf >>> o) &&& 1 = 0)))) := by
      show ym ((((zf >>> o) &&& 1 : Nat) : Int) == 0) = _
      unfold ym
      congr 3
      by_cases z : (zf >>> o) &&& 1 = 0
      · rw [z]; rfl
      · rw [decide_eq_false z, beq_eq_false_iff_ne]; omega
    simp only [ko, Yf, xg, yJ, yI, jY, l7, l9, Option.bind_some, Option.map_some, List.map_cons, List.map_nil, zq, p1, p2, p3, yi]
  have ev2 : zg fn kq [none, none, none, none, none, none, none, some (.val (.int (zf : Int))), none, some (.val (.int (o : Int))), none] = some (.val (.int ((zf ||| 2 ^ o : Nat) : Int))) := by
    have l7 : zg fn (.var 7) [none, none, none, none, none, none, none, some (.val (.int (zf : Int))), none, some (.val (.int (o : Int))), none] = some (.val (.int (zf : Int))) := rfl
    have l9 : zg fn (.var 9) [none, none, none, none, none, none, none, some (.val (.int (zf : Int))), none, some (.val (.int (o : Int))), none] = some (.val (.int (o : Int))) := rfl
    have p1 : ze .shl [.int 1, .int (o : Int)] = _ := kD (by omega)
    have p2 : ze .bor [.int (zf : Int), .int ((2 ^ o : Nat) : Int)] = _ := zju
    simp only [kq, xg, yJ, yI, jY, l7, l9, Option.bind_some, Option.map_some, List.map_cons, List.map_nil, zq, p1, p2]
  refine ⟨_, _, _, r0, ev1, fun H1 s1 => ?_⟩
  have h1 := h.keep s1
  by_cases z : (zf >>> o) &&& 1 = 0
  · rw [decide_eq_true z]
    refine XV ?_
    refine zbZ r0 ev2 fun H2 s2 => ?_
    have h2 := h1.keep s2
    show jI ku (kw K) D0 (yl a0 a1 a2 m ta d x6 (some (.int zf)) x8 (some (.int o)) (some (.int ((zf ||| 2 ^ o : Nat) : Int)))) H2
    refine zjv h2 w hm (zjx hma ho) fun kt1 H3 h3 w3 e3 ⟨t, ht, et⟩ k3 => ?_
    refine zjw h3 w3 hm ht et ho fun kt2 H4 h4 w4 e4 k4 => ?_
    refine q kt2 H4 _ h4 w4 ?_ fun t ht e => k4 t (k3 t ht) (by rw [e]; exact fun y => zjy z y.symm)
    rw [e4, e3]
    unfold wF
    rw [if_pos z]
  · rw [decide_eq_false z]
    refine XU ?_
    refine q kt H1 x10 h1 w ?_ fun _ y _ => y
    unfold wF
    rw [if_neg z]
structure TabAt (K : PySem.W.Frag) (H0 : Hp) (ta : Addr) (tb : List (List Nat)) (m : Nat) : Prop where
  xs : ∃ xs : List V, H0 ta = some (.lst xs) ∧ ∀ (i : Nat) (r : List Nat), tb[i]? = some r → ∃ b, xs[i]? = some (.ref b) ∧ SqL K H0 b (yU r)
  lt : ∀ r ∈ tb, ∀ x ∈ r, x < m
  len : tb.length = m
theorem VM {a : Addr} {xs : List V} {H H' : Hp} (s : Same H H') (h : SqL K H a xs) : SqL K H' a xs := by
  rcases h with h | h
  · exact .inl (kg s h)
  · exact .inr h
theorem zb2 {α β : Type} (f : β → α → β) (b : β) {l : List α} {i : Nat} {x : α} (h : l[i]? = some x) : (l.take (i + 1)).foldl f b = f ((l.take i).foldl f b) x := by
  rw [List.take_add_one, h, List.foldl_append]
  rfl
theorem kE {ns : List Nat} {i : Nat} {x : V} (h : (yU ns)[i]? = some x) : ∃ n : Nat, ns[i]? = some n ∧ x = .int (n : Int) := by
  unfold yU at h
  rw [List.getElem?_map, jo2] at h
  obtain ⟨n, h1, h2⟩ := h
  exact ⟨n, h1, h2.symm⟩
theorem zjA {tb : List (List Nat)} {zf here : Nat} (T : TabAt K H0 ta tb m) (h : KI H0 H d kt) (w : WK m kt) (hm : m ≤ 10) (hma : zf < 2 ^ m) (hh : here < m)
    (q : ∀ kt1 H1 x9 x10, KI H0 H1 d kt1 → WK m kt1 → zS kt1 = vw tb zf (zS kt) here → (∀ t ∈ kt, t.1 = zf → t ∈ kt1) → D0.nx (yl a0 a1 a2 m ta d x6 (some (.int zf)) (some (.int here)) x9 x10) H1) :
    kA K fn D0 (yl a0 a1 a2 m ta d x6 (some (.int zf)) (some (.int here)) x9 x10) H := by
  obtain ⟨xs, hx, hrow⟩ := T.xs
  have hi : tb[here]? = some (tb[here]'(by rw [T.len]; exact hh)) := List.getElem?_eq_getElem _
  generalize hr : tb[here]'(by rw [T.len]; exact hh) = row at hi
  obtain ⟨b, hb, hsq⟩ := hrow here row hi
  have hrl : ∀ x ∈ row, x < m := T.lt row (List.mem_of_getElem? hi)
  have hst : vw tb zf (zS kt) here = row.foldl (wF zf) (zS kt) := by
    unfold vw
    rw [List.getD_eq_getElem?_getD, hi]
    rfl
  refine ⟨_, rfl, _, rfl, ta, xs, (here : Int), .ref b, rfl, rfl, .of (h.same _ _ hx), atI_nat hb, b, rfl, ⟨_, VM h.same hsq⟩, ?_⟩
  refine XI (xs := yU row) (fun i σ H1 => ∃ kt1 x9 x10, σ = yl a0 a1 a2 m ta d x6 (some (.int zf)) (some (.int here)) x9 x10 ∧ KI H0 H1 d kt1 ∧ WK m kt1 ∧ zS kt1 = (row.take i).foldl (wF zf) (zS kt) ∧ ∀ t ∈ kt, t.1 = zf → t ∈ kt1) ?_ ?_ ?_ ?_
  · exact ⟨kt, x9, x10, rfl, h, w, rfl, fun _ z _ => z⟩
  · rintro i σ H1 _ ⟨kt1, y9, y10, rfl, h1, _⟩
    exact VM h1.same hsq
  · rintro i x σ H1 hx1 ⟨kt1, y9, y10, rfl, h1, w1, e1, k1⟩
    obtain ⟨o, ho, rfl⟩ := kE hx1
    show kz K fn _ (yl a0 a1 a2 m ta d x6 (some (.int zf)) (some (.int here)) (some (.int (o : Int))) y10) H1
    refine zjz (here := here) h1 w1 hm hma (hrl o (List.mem_of_getElem? ho)) fun kt2 H2 y h2 w2 e2 k2 => ?_
    refine ⟨kt2, _, y, rfl, h2, w2, ?_, fun t ht e => k2 t (k1 t ht e) e⟩
    rw [e2, e1, zb2 _ _ ho]
  · rintro σ H1 ⟨kt1, y9, y10, rfl, h1, w1, e1, k1⟩
    refine q kt1 H1 y9 y10 h1 w1 ?_ k1
    rw [e1, hst, yU, List.length_map, List.take_length]
theorem zjB {tb : List (List Nat)} {zf : Nat} (T : TabAt K H0 ta tb m) (h : KI H0 H d kt) (w : WK m kt) (hm : m ≤ 10) (hma : zf < 2 ^ m)
    (q : ∀ kt1 H1 x8 x9 x10, KI H0 H1 d kt1 → WK m kt1 → zS kt1 = wX tb (zS kt) zf → D0.nx (yl a0 a1 a2 m ta d x6 (some (.int zf)) x8 x9 x10) H1) :
    kB K fn D0 (yl a0 a1 a2 m ta d x6 (some (.int zf)) x8 x9 x10) H := by
  refine ⟨_, rfl, d, rfl, .inl ⟨_, .inl h.dic⟩, _, rfl, Nat.zero_le _, fun p hp => ?_⟩
  have h1 := h.keep (yx hp (.lst []))
  refine ⟨_, DGet.k (k := Sum.inl (zf : Int)) h1.dic, ?_⟩
  rw [Zp]
  have hg := VJ kt zf
  cases e : kt.find? fun t => decide (t.1 = zf) with
  | none =>
    rw [e] at hg
    refine ⟨p, rfl, ⟨_, .of yf⟩, ?_⟩
    refine XI (xs := []) (fun _ σ H1 => σ = yl a0 a1 a2 m ta d x6 (some (.int zf)) x8 x9 x10 ∧ H1 = zr H p (.lst [])) ⟨rfl, rfl⟩ ?_ ?_ ?_
    · rintro i σ H1 _ ⟨_, rfl⟩
      exact .of yf
    · intro i x σ H1 hx
      simp at hx
    · rintro σ H1 ⟨rfl, rfl⟩
      refine q kt _ _ _ _ h1 w ?_
      unfold wX
      rw [hg]
      rfl
  | some t =>
    rw [e] at hg
    have ht := List.mem_of_find?_eq_some e
    have et : t.1 = zf := by simpa using List.find?_some e
    have hst : wX tb (zS kt) zf = t.2.2.foldl (vw tb zf) (zS kt) := by
      unfold wX
      rw [hg]
      rfl
    refine ⟨t.2.1, rfl, ⟨_, .of (h1.lis t ht).1⟩, ?_⟩
    refine XI (xs := yU t.2.2) (fun i σ H1 => ∃ kt1 x8 x9 x10, σ = yl a0 a1 a2 m ta d x6 (some (.int zf)) x8 x9 x10 ∧ KI H0 H1 d kt1 ∧ WK m kt1 ∧ zS kt1 = (t.2.2.take i).foldl (vw tb zf) (zS kt) ∧ t ∈ kt1) ?_ ?_ ?_ ?_
    · exact ⟨kt, x8, x9, x10, rfl, h1, w, rfl, ht⟩
    · rintro i σ H1 _ ⟨kt1, y8, y9, y10, rfl, h2, _, _, ht1⟩
      exact .of (h2.lis t ht1).1
    · rintro i x σ H1 hx1 ⟨kt1, y8, y9, y10, rfl, h2, w2, e2, ht1⟩
      obtain ⟨o, ho, rfl⟩ := kE hx1
      show kA K fn _ (yl a0 a1 a2 m ta d x6 (some (.int zf)) (some (.int (o : Int))) y9 y10) H1
      refine zjA T h2 w2 hm hma ((w.w t ht).2.2 o (List.mem_of_getElem? ho)) fun kt2 H2 z9 z10 h3 w3 e3 k3 => ?_
      refine ⟨kt2, _, z9, z10, rfl, h3, w3, ?_, k3 t ht1 et⟩
      rw [e3, e2, zb2 _ _ ho]
    · rintro σ H1 ⟨kt1, y8, y9, y10, rfl, h2, w2, e2, _⟩
      refine q kt1 H1 y8 y9 y10 h2 w2 ?_
      rw [e2, hst, yU, List.length_map, List.take_length]
theorem zb3 (f : Kn → Nat → Kn) (b : Kn) (i : Nat) : ((List.range (i + 1)).map (1 + ·)).foldl f b = f (((List.range i).map (1 + ·)).foldl f b) (1 + i) := by
  rw [List.range_succ, List.map_append, List.foldl_append]
  rfl
theorem zjC {tb : List (List Nat)} {ss : List Nat} (T : TabAt K H0 ta tb m) (h : KI H0 H d kt) (w : WK m kt) (hm : m ≤ 10) (e0 : zS kt = wp ss)
    (q : ∀ kt1 H1 x7 x8 x9 x10, KI H0 H1 d kt1 → WK m kt1 → zS kt1 = xS tb ss m → D0.nx (yl a0 a1 a2 m ta d x6 x7 x8 x9 x10) H1) :
    kC K fn D0 (yl a0 a1 a2 m ta d x6 x7 x8 x9 x10) H := by
  have r0 : R K (fun _ => False) [none, none, none, some (.val (.int (m : Int))), none, none, none, none, none, none, none] (yl a0 a1 a2 m ta d x6 x7 x8 x9 x10) H :=
    (((((((((((R.nil0.no _).no _).no _).no _).no _).no _).no _).in_ m).no _).no _).no _)
  have ev1 : zM fn km [none, none, none, some (.val (.int (m : Int))), none, none, none, none, none, none, none] = some [.val (.int 1), .val (.int ((2 ^ m : Nat) : Int))] := by
    have l3 : zg fn (.var 3) [none, none, none, some (.val (.int (m : Int))), none, none, none, none, none, none, none] = some (.val (.int (m : Int))) := rfl
    have p1 : ze .shl [.int 1, .int (m : Int)] = _ := kD (by omega)
    simp only [km, xg, yJ, yI, jY, l3, Option.bind_some, Option.map_some, List.map_cons, List.map_nil, zq, p1]
  have hp : 2 ^ m ≤ 2 ^ 10 := Nat.pow_le_pow_right (by decide) hm
  refine ⟨_, _, _, r0, ev1, fun vs H1 s1 f => ?_⟩
  have ev : vs = [.int 1, .int ((2 ^ m : Nat) : Int)] := by
    cases f with
    | cons f1 t =>
      cases t with
      | cons f2 t =>
        cases t
        cases f1 with
        | val f1 =>
          cases f2 with
          | val f2 => cases f1; cases f2; rfl
  subst ev
  have h1 := h.keep s1
  have bd : ∀ M : Nat, M ≤ 2 ^ 10 → -(2 ^ 62) ≤ (M : Int) ∧ (M : Int) < 2 ^ 62 ∧ ((M : Int) - 1).toNat = M - 1 := fun M h => by omega
  obtain ⟨b1, b2, en⟩ := bd (2 ^ m) hp
  refine ⟨1, ((2 ^ m : Nat) : Int), rfl, ⟨by decide, by decide, b1, b2⟩, ?_⟩
  rw [en]
  refine zfk (fun i σ H2 => ∃ kt1 x7 x8 x9 x10, σ = yl a0 a1 a2 m ta d x6 x7 x8 x9 x10 ∧ KI H0 H2 d kt1 ∧ WK m kt1 ∧ zS kt1 = ((List.range i).map (1 + ·)).foldl (wX tb) (wp ss)) ⟨kt, x7, x8, x9, x10, rfl, h1, w, e0⟩ ?_ ?_
  · rintro i σ H2 hi ⟨kt1, y7, y8, y9, y10, rfl, h2, w2, e2⟩
    have ei : (1 : Int) + (i : Int) = ((1 + i : Nat) : Int) := by omega
    rw [ei]
    show kB K fn _ (yl a0 a1 a2 m ta d x6 (some (.int ((1 + i : Nat) : Int))) y8 y9 y10) H2
    refine zjB T h2 w2 hm (by omega) fun kt2 H3 z8 z9 z10 h3 w3 e3 => ?_
    exact ⟨kt2, _, z8, z9, z10, rfl, h3, w3, by rw [e3, e2, zb3]⟩
  · rintro σ H2 ⟨kt1, y7, y8, y9, y10, rfl, h2, w2, e2⟩
    exact q kt1 H2 _ _ _ _ h2 w2 e2
end
end L2.LW
set_option maxHeartbeats 4000000
namespace L2.LW
open PySem PySem.Spec PySem.W PySem.Calls PyProof.Rows
theorem kF {a b : Nat} (h : 2 ^ a = 2 ^ b) : a = b := by
  rcases Nat.lt_trichotomy a b with z | z | z
  · exact absurd h (Nat.ne_of_lt (Nat.pow_lt_pow_right (by decide) z))
  · exact z
  · exact absurd h.symm (Nat.ne_of_lt (Nat.pow_lt_pow_right (by decide) z))
section
variable {K : PySem.W.Frag} {fn : Nat → List D → Option SV} {H0 H : Hp} {D0 : Ends} {a0 a1 x6 x7 x8 x9 x10 : Option V} {m : Nat} {ta d b : Addr}
theorem zjD {ss : List Nat} (hb : SqL K H0 b (yU ss)) (h : KI H0 H d []) (hm : m ≤ 10) (hs : ∀ k ∈ ss, k < m) (hn : ss.Nodup)
    (q : ∀ kt1 H1 x6, KI H0 H1 d kt1 → WK m kt1 → zS kt1 = wp ss → D0.nx (yl a0 a1 (some (.ref b)) m ta d x6 x7 x8 x9 x10) H1) :
    kr K fn D0 (yl a0 a1 (some (.ref b)) m ta d x6 x7 x8 x9 x10) H := by
  refine ⟨_, rfl, b, rfl, ⟨_, VM h.same hb⟩, ?_⟩
  refine XI (xs := yU ss) (fun i σ H1 => ∃ kt1 x6, σ = yl a0 a1 (some (.ref b)) m ta d x6 x7 x8 x9 x10 ∧ KI H0 H1 d kt1 ∧ WK m kt1 ∧ zS kt1 = wp (ss.take i)) ?_ ?_ ?_ ?_
  · exact ⟨[], x6, rfl, h, ⟨fun t ht => nomatch ht⟩, rfl⟩
  · rintro i σ H1 _ ⟨kt1, y6, rfl, h1, _⟩
    exact VM h1.same hb
  · rintro i x σ H1 hx ⟨kt1, y6, rfl, h1, w1, e1⟩
    obtain ⟨k, hk, rfl⟩ := kE hx
    have hkm := hs k (List.mem_of_getElem? hk)
    show XR (yO 5) (tE K fn VL) (ZP (XN (yO 6) jN)) _ (yl a0 a1 (some (.ref b)) m ta d (some (.int (k : Int))) x7 x8 x9 x10) H1
    have r0 : ∀ {H : Hp}, R K (fun _ => False) [none, none, none, none, none, none, some (.val (.int (k : Int))), none, none, none, none] (yl a0 a1 (some (.ref b)) m ta d (some (.int (k : Int))) x7 x8 x9 x10) H := fun {H} =>
      (((((((((((R.nil0.no _).no _).no _).no _).in_ k).no _).no _).no _).no _).no _).no _)
    have ev1 : zg fn VL [none, none, none, none, none, none, some (.val (.int (k : Int))), none, none, none, none] = some (.val (.int ((2 ^ k : Nat) : Int))) := by
      have l6 : zg fn (.var 6) [none, none, none, none, none, none, some (.val (.int (k : Int))), none, none, none, none] = some (.val (.int (k : Int))) := rfl
      have p1 : ze .shl [.int 1, .int (k : Int)] = _ := kD (by omega)
      simp only [VL, xg, yJ, yI, jY, l6, Option.bind_some, Option.map_some, List.map_cons, List.map_nil, zq, p1]
    refine ⟨_, rfl, ?_, fun p hp => ?_⟩
    · rw [← vz]; exact (by decide : 1 ≤ 16777216)
    have h2 := h1.keep (yx hp (.lst [.int (k : Int)]))
    refine ⟨_, rfl, zbZ r0 ev1 fun H3 s3 => ?_⟩
    have h3 := h2.keep s3
    have hkn : ∀ t ∈ kt1, t.1 ≠ 2 ^ k := fun t ht z => by
      have : (t.1, t.2.2) ∈ zS kt1 := List.mem_map.mpr ⟨t, ht, rfl⟩
      rw [e1] at this
      obtain ⟨j, hj, ej⟩ := List.mem_map.mp this
      have e3 : 2 ^ j = t.1 := congrArg Prod.fst ej
      rw [z] at e3
      have e4 := kF e3
      subst e4
      obtain ⟨i2, hi2, e5⟩ := List.mem_take_iff_getElem.mp hj
      obtain ⟨hi, e6⟩ := List.getElem?_eq_some_iff.mp hk
      have : i2 = i := (List.getElem_inj hn).mp (e5.trans e6.symm)
      omega
    have hv : yh (xK kt1) (Sum.inl ((2 ^ k : Nat) : Int)) = none := by
      rw [Zp, List.find?_eq_none.mpr fun t ht => by simpa using hkn t ht]
      rfl
    refine ⟨d, _, rfl, DPut.k (k := Sum.inl ((2 ^ k : Nat) : Int)) h3.dic (by rw [xK, List.length_map]; exact w1.short h1.kd hm), ?_⟩
    rw [zad _ hv]
    refine ⟨_, _, rfl, h3.put hkn [k] (s3 _ _ yf) (h1.same.free hp) fun t ht => wN (h1.lis t ht).1 hp, w1.put (Nat.pow_lt_pow_right (by decide) hkm) (by simp) fun x hx => ?_, ?_⟩
    · simp only [List.mem_singleton] at hx
      rw [hx]; exact hkm
    · rw [List.take_add_one, hk]
      show zS (kt1 ++ [(2 ^ k, p, [k])]) = wp (ss.take i ++ [k])
      unfold zS wp at *
      rw [List.map_append, List.map_append, e1]
      rfl
  · rintro σ H1 ⟨kt1, y6, rfl, h1, w1, e1⟩
    refine q kt1 H1 y6 h1 w1 ?_
    rw [e1, yU, List.length_map, List.take_length]
end
theorem kG : ∀ {st : List D} {ns : List Nat}, nats? st = some ns → st = zQ ns
  | [], ns, h => by cases h; rfl
  | d :: r, ns, h => by
    cases d <;> try (simp [nats?] at h; done)
    rename_i i
    simp only [nats?] at h
    split at h
    case isFalse => cases h
    rename_i h0
    rw [jo2] at h
    obtain ⟨l, h1, rfl⟩ := h
    rw [kG h1]
    show D.int i :: zQ l = D.int (i.toNat : Int) :: zQ l
    rw [Int.toNat_of_nonneg h0]
theorem zb4 : ∀ {tb : List D} {t : List (List Nat)}, natss? tb = some t → tb = t.map fun r => D.lst (zQ r)
  | [], t, h => by cases h; rfl
  | d :: r, t, h => by
    cases d <;> try (simp [natss?] at h; done)
    rename_i l
    simp only [natss?, jo1, jo2] at h
    obtain ⟨ns, h1, t2, h2, rfl⟩ := h
    rw [zb4 h2, kG h1]
    rfl
section
variable {K : PySem.W.Frag} {W : Addr → Prop} {H : Hp}
theorem zb5 : ∀ {ns : List Nat} {xs : List V}, Reps K W H (zQ ns) xs → xs = yU ns
  | [], _, .nil => rfl
  | n :: r, _, .cons h t => by
    cases h
    rw [zb5 t]
    rfl
theorem zb6 {ns : List Nat} {v : V} (h : Rep K W H (.lst (zQ ns)) v) : ∃ b, v = .ref b ∧ SqL K H b (yU ns) := by
  cases h with
  | lst h r =>
    rw [zb5 r] at h
    rcases h with ⟨_, h⟩ | h
    · exact ⟨_, rfl, .inl h⟩
    · exact ⟨_, rfl, .inr h⟩
theorem R.nilW (wf : Wf W H) : R K W [] [] H := ⟨fun i d h => (by simp at h), fun i d h => (by simp at h), fun i x d h => (by simp at h), fun i j x y d e a h => (by simp at h), wf, rfl⟩
theorem kH {ρ : LW.Env} (h : ∀ x ∈ ρ, ∀ d, x ≠ some (.io d)) (i : Nat) : ¬ xi ρ i := fun ⟨d, e⟩ => h _ (List.mem_of_getElem? e) d rfl
theorem zjE {ρ : LW.Env} {σ : St} (h : ∀ x ∈ ρ, ∀ y, x = some y → y.cell = none) (a : Addr) : ¬ xo ρ σ a := fun ⟨i, x, d, e, c, _⟩ => by
  have := h _ (List.mem_of_getElem? e) x rfl
  rw [c] at this
  cases this
theorem zjF {H0 : Hp} {d : Addr} {kt : Kt} (h : KI H0 H d kt) (wf : Wf W H0) : Rep K W H (vx (zS kt)) (.ref d) := by
  have nw : ∀ a, H0 a = none → ¬ W a := fun a e w => wf a w e
  have e1 : (zS kt).map (fun p => D.int (p.1 : Int)) = (kt.map fun t => (t.1 : Int)).map D.int := by
    unfold zS
    rw [List.map_map, List.map_map]
    rfl
  have e2 : xK kt = zT (kt.map fun t => (t.1 : Int)) (kt.map fun t => V.ref t.2.1) := by
    unfold xK zT
    rw [List.map_map, List.zip_map']
    rfl
  have rp : ∀ l : Kt, (∀ t ∈ l, t ∈ kt) → Reps K W H ((zS l).map fun p => D.lst (zQ p.2)) (l.map fun t => V.ref t.2.1) := by
    intro l
    induction l with
    | nil => intro _; exact .nil
    | cons t r ih =>
      intro hl
      have ht := hl t (by simp)
      exact .cons (.lst (.inl ⟨nw _ (h.lis t ht).2, .inl (h.lis t ht).1⟩) (Reps.nats _)) (ih fun s hs => hl s (by simp [hs]))
  unfold vx
  rw [e1]
  exact .dK (nw _ h.fr) (.inl (by rw [← e2]; exact h.dic)) (by simp) (rp kt fun _ z => z)
end
theorem zjG {α : Type} {l : List α} (h : l.length = 11) : ∃ a0 a1 a2 a3 a4 a5 a6 a7 a8 a9 a10, l = [a0, a1, a2, a3, a4, a5, a6, a7, a8, a9, a10] := by
  match l, h with
  | [a0, a1, a2, a3, a4, a5, a6, a7, a8, a9, a10], _ => exact ⟨a0, a1, a2, a3, a4, a5, a6, a7, a8, a9, a10, rfl⟩
section
variable {X : Cx} {fa : Nat → List D → Option Ans} {fuel : Nat} {st1 st2 st3 : Stmt} {sts : List Stmt} {ss : Ss}
theorem zjH (h1 : PS X st1 zjr) (h2 : PS X st2 (kr X.K (zx fa))) (h3 : PS X st3 (kC X.K (zx fa))) (h4 : ISs X (zy fa fuel ss) sts) : ISs X (zy fa fuel (.cons .ends ss)) (st1 :: st2 :: st3 :: sts) :=
  .mk <| (jJ h1 (jJ h2 (jJ h3 h4.h))).imp fun D0 σ H zz3 => by
    obtain ⟨W, ρ, x, hR, hx, q⟩ := zz3
    simp only [zaG, zhp, jo1] at hx
    obtain ⟨⟨fl, ρ1⟩, e1, e2⟩ := hx
    unfold Ye at e1
    split at e1
    case h_2 => cases e1
    rename_i flo lp st m tb
    split at e1
    case isFalse => cases e1
    rename_i hm
    simp only [jo1] at e1
    obtain ⟨ns, e3, t, e4, e5⟩ := e1
    split at e5
    case isFalse => cases e5
    rename_i hc
    cases e5
    simp only [Bool.and_eq_true, decide_eq_true_eq, List.all_eq_true] at hc
    obtain ⟨⟨⟨c1, c2⟩, c3⟩, c4⟩ := hc
    obtain ⟨s0, s1, s2, s3, s4, s5, s6, s7, s8, s9, s10, rfl⟩ := zjG hR.len.symm
    have hst := kG e3
    have htb := zb4 e4
    subst hst htb
    obtain ⟨v0, g0, r0⟩ := hR.val 0 _ rfl
    obtain ⟨v2, g2, r2⟩ := hR.val 2 _ rfl
    obtain ⟨v3, g3, r3⟩ := hR.val 3 _ rfl
    obtain ⟨ta, oo, g4, w4, h5, o5⟩ := hR.own 4 _ _ rfl rfl
    cases g0; cases g2; cases g3; cases g4
    obtain ⟨b, rfl, hb⟩ := zb6 r2
    cases r3
    cases o5 with
    | lst rx =>
      rename_i xs
      obtain ⟨k, rfl⟩ := Int.eq_ofNat_of_zero_le hm.1
      have hk : ((k : Nat) : Int).toNat = k := by omega
      simp only [hk] at c1 c3 c4 e2 q ⊢
      have hm10 : k ≤ 10 := by omega
      have T : TabAt X.K H ta t k := by
        refine ⟨⟨xs, h5, fun i r hi => ?_⟩, c4, c3⟩
        obtain ⟨v, hv, rv⟩ := rx.get (i := i) (d := .lst (zQ r)) (by rw [List.getElem?_map, hi]; rfl)
        obtain ⟨b2, rfl, hb2⟩ := zb6 rv
        exact ⟨b2, hv, hb2⟩
      intro d hd
      have K0 : KI H (zr H d (.dK [])) d [] := ⟨yx hd _, hd, yf, fun t ht => (nomatch ht), List.nodup_nil, List.nodup_nil⟩
      show jI (kr X.K (zx fa)) (jI (kC X.K (zx fa)) _) D0 (yl (some v0) s1 (some (.ref b)) k ta d s6 s7 s8 s9 s10) _
      refine zjD hb K0 hm10 c1 c2 fun kt1 H1 y6 K1 w1 k1 => ?_
      refine zjC T K1 w1 hm10 k1 fun kt2 H2 y7 y8 y9 y10 K2 w2 k2 => ?_
      have p1 : SPost X.K W [some (.val flo), some (.val lp), some (.val (.lst (zQ ns))), some (.val (.int (k : Int))), some (.obj true (.lst (t.map fun r => D.lst (zQ r)))), none, none, none, none, none, none] [some v0, s1, some (.ref b), some (.int (k : Int)), some (.ref ta), s5, s6, s7, s8, s9, s10] H W [some (.val flo), none, none, some (.val (.int (k : Int))), none, some (.val (vx (xS t ns k))), none, none, none, none, none] (yl (some v0) s1 (some (.ref b)) k ta d y6 y7 y8 y9 y10) H2 := by
        refine ⟨?_, fun a o e _ => K2.same a o e, fun a w => .inl w, fun a w _ => ⟨w, zjE (by simp [SV.cell]) a⟩, fun i => ⟨⟨fun z => absurd z (kH (by simp) i), fun z => absurd z (kH (by simp) i)⟩, fun z => absurd z (kH (by simp) i)⟩⟩
        have wf2 : Wf W H2 := fun a w z => by
          cases e : H a with
          | none => exact hR.wf a w e
          | some o => rw [K2.same a o e] at z; cases z
        rw [← k2]
        exact (((((((((((R.nilW wf2).no _).no _).no _).no _).no _).cons (zjF K2 hR.wf)).no _).cons (.int _)).no _).no _).cons (r0.ext (.same K2.same))
      exact ⟨W, _, x, p1.r, e2, fun W3 σ3 H3 p3 => FlOk.back p1 (q W3 σ3 H3 (p1.trans p3 hR))⟩
end
end L2.LW
namespace L2.LW
open PySem
section
variable {fn : Nat → List D → Option SV} {fa : Nat → List D → Option Ans} {fuel : Nat} {ρ : Env}
@[simp] theorem zoY {i : Int} : zg fn (.int i) ρ = some (.val (.int i)) := rfl
@[simp] theorem zoZ {i : Bool} : zg fn (.bl i) ρ = some (.val (.bl i)) := rfl
@[simp] theorem zo0 : zg fn .non ρ = some (.val .non) := rfl
@[simp] theorem zo1 {i : Str} : zg fn (.str i) ρ = some (.val (.str i)) := rfl
@[simp] theorem zb7 {i : Nat} : zg fn (.var i) ρ = look ρ i := rfl
@[simp] theorem zjI {p : Prim} {es : Es} : zg fn (.prim p es) ρ = (zM fn es ρ).bind fun rs => ze p (rs.map zq) := rfl
@[simp] theorem zo2 {es : Es} : zg fn (.tup es) ρ = (zM fn es ρ).bind fun rs => (xc rs).map fun ds => .val (.tup ds) := rfl
@[simp] theorem zo3 {es : Es} : zg fn (.lst es) ρ = (zM fn es ρ).bind fun rs => (xc rs).map fun ds => .obj true (.lst ds) := rfl
noncomputable def kI (r : SV) (k : Option SV) : Option SV := match r with
  | .val (.bl true) => k
  | .val (.bl false) => some (.val (.bl false))
  | _ => none
noncomputable def zb8 (r : SV) (k : Option SV) : Option SV := match r with
  | .val (.bl true) => some (.val (.bl true))
  | .val (.bl false) => k
  | _ => none
noncomputable def zb9 (r : SV) : Option SV := match r with
  | .val (.bl b) => some (.val (.bl (!b)))
  | _ => none
@[simp] theorem zo4 {b : Bool} {k : Option SV} : kI (.val (.bl b)) k = if b then k else some (.val (.bl false)) := by cases b <;> rfl
@[simp] theorem zo5 {b : Bool} {k : Option SV} : zb8 (.val (.bl b)) k = if b then some (.val (.bl true)) else k := by cases b <;> rfl
@[simp] theorem zo6 {b : Bool} : zb9 (.val (.bl b)) = some (.val (.bl (!b))) := rfl
@[simp] theorem zo7 {a b : E} : zg fn (.and a b) ρ = (zg fn a ρ).bind fun r => kI r (zg fn b ρ) := rfl
@[simp] theorem zo8 {a b : E} : zg fn (.or a b) ρ = (zg fn a ρ).bind fun r => zb8 r (zg fn b ρ) := rfl
@[simp] theorem zo9 {a : E} : zg fn (.not a) ρ = (zg fn a ρ).bind zb9 := rfl
@[simp] theorem zpa {p q : Prim} {a b c : E} : zg fn (.chain p q a b c) ρ = (zg fn a ρ).bind fun x => (zg fn b ρ).bind fun y => (ze p [zq x, zq y]).bind fun z => kI z ((zg fn c ρ).bind fun w => ze q [zq y, zq w]) := rfl
@[simp] theorem zpb {c a b : E} : zg fn (.ite c a b) ρ = (zv fn c ρ).bind fun k => if k then zg fn a ρ else zg fn b ρ := rfl
@[simp] theorem zpc {f : Nat} {es : Es} : zg fn (.call f es) ρ = (zM fn es ρ).bind fun rs => xR rs (fn f (rs.map zq)) := rfl
theorem zjJ {g : Bool} {src : Es} {cond elt : E} : zg fn (.comp g src cond elt) ρ = (zM fn src ρ).bind fun rs => (zZ g rs).bind fun ds =>
    if ds.length ≤ line then (yG (fun d => zv fn cond (some (.val d) :: ρ)) (fun d => zg fn elt (some (.val d) :: ρ)) ds).map fun l => .obj true (.lst l) else none := rfl
@[simp] theorem zpd {t : Bool} : zg fn (.dnew t) ρ = some (.obj true (.dct t [] [])) := rfl
@[simp] theorem zpe {t : Bool} {k v : E} : zg fn (.done t k v) ρ = (zg fn k ρ).bind fun x => (zg fn v ρ).bind fun y => (toD x).bind fun a => (toD y).bind fun b => if yF t a then some (.obj true (.dct t [a] [b])) else none := rfl
@[simp] theorem kJ : zM fn .nil ρ = some [] := rfl
@[simp] theorem kK {e : E} {es : Es} : zM fn (.cons e es) ρ = (zg fn e ρ).bind fun r => (zM fn es ρ).map (r :: ·) := rfl
@[simp] theorem zpf {a b : E} : zv fn (.and a b) ρ = (zv fn a ρ).bind fun k => if k then zv fn b ρ else some false := rfl
@[simp] theorem zpg {a b : E} : zv fn (.or a b) ρ = (zv fn a ρ).bind fun k => if k then some true else zv fn b ρ := rfl
@[simp] theorem zph {a : E} : zv fn (.not a) ρ = (zv fn a ρ).map (!·) := rfl
@[simp] theorem zpi {i : Int} : zv fn (.int i) ρ = some (i != 0) := rfl
@[simp] theorem zjK {i : Bool} : zv fn (.bl i) ρ = some i := rfl
@[simp] theorem zpj {i : Nat} : zv fn (.var i) ρ = (look ρ i).bind yi := rfl
@[simp] theorem zjL {p : Prim} {es : Es} : zv fn (.prim p es) ρ = (zM fn es ρ).bind fun rs => (ze p (rs.map zq)).bind yi := rfl
@[simp] theorem zpk {f : Nat} {es : Es} : zv fn (.call f es) ρ = (zM fn es ρ).bind fun rs => (xR rs (fn f (rs.map zq))).bind yi := rfl
noncomputable def zca (r : SV) (k : Option Bool) : Option Bool := match r with
  | .val (.bl true) => k
  | .val (.bl false) => some false
  | _ => none
@[simp] theorem zpl {b : Bool} {k : Option Bool} : zca (.val (.bl b)) k = if b then k else some false := by cases b <;> rfl
@[simp] theorem zpm {p q : Prim} {a b c : E} : zv fn (.chain p q a b c) ρ = (zg fn a ρ).bind fun x => (zg fn b ρ).bind fun y => (ze p [zq x, zq y]).bind fun z => zca z ((zg fn c ρ).bind fun w => (ze q [zq y, zq w]).bind yi) := rfl
@[simp] theorem zpn {e : E} : zB fa fuel (.expr e) ρ = (zg (zx fa) e ρ).map fun _ => (.nx, ρ) := rfl
@[simp] theorem zpo {i : Nat} {e : E} : zB fa fuel (.asg i e) ρ = (zg (zx fa) e ρ).bind fun r => if r.lent || !free ρ i then none else some (.nx, ρ.set i (some r)) := rfl
noncomputable def zU : Option (Option SV) → Bool
  | some (some (.io _)) => false
  | _ => true
@[simp] theorem zcb {i : Nat} : free ρ i = zU ρ[i]? := by
  unfold free zU
  rcases h : ρ[i]? with _ | _ | (d | ⟨o, d⟩ | d) <;> rfl
@[simp] theorem zpp : zU none = true := rfl
@[simp] theorem zpq : zU (some none) = true := rfl
@[simp] theorem wv {d : D} : zU (some (some (.val d))) = true := rfl
@[simp] theorem zpr {o : Bool} {d : D} : zU (some (some (.obj o d))) = true := rfl
noncomputable def kL (ρ : Env) (i j : Nat) : Option (Option SV) → Option (Fl × Env)
  | some (some (.val d)) => some (.nx, ρ.set i (some (.val d)))
  | some (some (.obj _ d)) => some (.nx, (ρ.set j (some (.val d))).set i (some (.val d)))
  | _ => none
@[simp] theorem zps {i j : Nat} {d : D} : kL ρ i j (some (some (.val d))) = some (.nx, ρ.set i (some (.val d))) := rfl
@[simp] theorem zpt {i j : Nat} {o : Bool} {d : D} : kL ρ i j (some (some (.obj o d))) = some (.nx, (ρ.set j (some (.val d))).set i (some (.val d))) := rfl
@[simp] theorem zpu {i j : Nat} : zB fa fuel (.mov i j) ρ = if free ρ i then kL ρ i j ρ[j]? else none := by
  rw [zhh]
  rcases h : ρ[j]? with _ | _ | (d | ⟨o, d⟩ | d) <;> rfl
noncomputable def VN (ρ : Env) (j : Nat) : Option (Option SV) → Option (List D × Env)
  | some (some (.val d)) => (jg d).map fun l => (l, ρ)
  | some (some (.obj _ (.lst ds))) => some (ds, ρ.set j (some (.val (.lst ds))))
  | _ => none
@[simp] theorem zpv {j : Nat} {d : D} : VN ρ j (some (some (.val d))) = (jg d).map fun l => (l, ρ) := rfl
@[simp] theorem zpw {j : Nat} {o : Bool} {ds : List D} : VN ρ j (some (some (.obj o (.lst ds)))) = some (ds, ρ.set j (some (.val (.lst ds)))) := rfl
@[simp] theorem zpx {j : Nat} : Qu ρ j = VN ρ j ρ[j]? := by
  unfold Qu VN
  rcases h : ρ[j]? with _ | _ | (d | ⟨o, d⟩ | d) <;> rfl
@[simp] theorem zpy {l : List D} : jg (.tup l) = some l := rfl
@[simp] theorem zpz {l : List D} : jg (.lst l) = some l := rfl
noncomputable def zjM (ρ : Env) (i : Nat) (x : SV) (r : Option SV) : Option D → Option (Fl × Env)
  | some (.lst ds) => r.bind fun r => (toD r).bind fun d => if ds.length < line then some (.nx, ρ.set i (some (x.put (.lst (ds ++ [d]))))) else none
  | _ => none
noncomputable def VO (ρ : Env) (i : Nat) (r : Option SV) : Option (Option SV) → Option (Fl × Env)
  | some (some x) => zjM ρ i x r x.cell
  | _ => none
@[simp] theorem zjN {i : Nat} {r : Option SV} {ds : List D} : VO ρ i r (some (some (.obj true (.lst ds)))) = r.bind fun r => (toD r).bind fun d => if ds.length < line then some (.nx, ρ.set i (some (.obj true (.lst (ds ++ [d]))))) else none := rfl
@[simp] theorem zpA {i : Nat} {e : E} : zB fa fuel (.app i e) ρ = VO ρ i (zg (zx fa) e ρ) ρ[i]? := by
  rw [zaD]
  rcases h : ρ[i]? with _ | _ | (d | ⟨_ | _, d⟩ | d)
  · rfl
  · rfl
  · rfl
  · rfl
  · cases d <;> rfl
  · cases d <;> rfl
noncomputable def zjO (ρ : Env) (i : Nat) (x : SV) (rk rv : Option SV) : Option D → Option (Fl × Env)
  | some (.dct t ks vs) => rv.bind fun r => (toD r).bind fun d => rk.bind fun r => (toD r).bind fun a => if yF t a && decide (ks.length < line) then some (.nx, ρ.set i (some (x.put (wk t ks vs a d)))) else none
  | _ => none
noncomputable def YB (ρ : Env) (i : Nat) (rk rv : Option SV) : Option (Option SV) → Option (Fl × Env)
  | some (some x) => zjO ρ i x rk rv x.cell
  | _ => none
@[simp] theorem zjP {i : Nat} {rk rv : Option SV} {t : Bool} {ks vs : List D} : YB ρ i rk rv (some (some (.obj true (.dct t ks vs)))) = rv.bind fun r => (toD r).bind fun d => rk.bind fun r => (toD r).bind fun a => if yF t a && decide (ks.length < line) then some (.nx, ρ.set i (some (.obj true (wk t ks vs a d)))) else none := rfl
@[simp] theorem zpB {i : Nat} {rk rv : Option SV} {t : Bool} {ks vs : List D} : YB ρ i rk rv (some (some (.io (.dct t ks vs)))) = rv.bind fun r => (toD r).bind fun d => rk.bind fun r => (toD r).bind fun a => if yF t a && decide (ks.length < line) then some (.nx, ρ.set i (some (.io (wk t ks vs a d)))) else none := rfl
@[simp] theorem zpC {i : Nat} {k v : E} : zB fa fuel (.dset i k v) ρ = YB ρ i (zg (zx fa) k ρ) (zg (zx fa) v ρ) ρ[i]? := by
  rw [zaE]
  rcases h : ρ[i]? with _ | _ | (d | ⟨_ | _, d⟩ | d)
  · rfl
  · rfl
  · rfl
  · rfl
  · cases d <;> rfl
  · cases d <;> rfl
@[simp] theorem zpD {i j k : Nat} {e : E} : zB fa fuel (.unp3 i j k e) ρ = (zg (zx fa) e ρ).bind (zay ρ i j k) := rfl
@[simp] theorem zpE {i j : Nat} : zB fa fuel (.dupd i j) ρ = zax ρ i j := rfl
@[simp] theorem zpF {m : M} : zB fa fuel (.exprM m) ρ = (wW fa m ρ).map fun x => (.nx, x.2) := rfl
@[simp] theorem zpG {i : Nat} {m : M} : zB fa fuel (.asgM i m) ρ = (wW fa m ρ).bind fun x => if x.1.lent || !free x.2 i then none else some (.nx, x.2.set i (some (.val (zq x.1)))) := rfl
@[simp] theorem zpH {c : E} {m : M} {a b : Ss} : zB fa fuel (.ifO c m a b) ρ = (zv (zx fa) c ρ).bind fun k => if k then zy fa fuel a ρ else (wW fa m ρ).bind fun x => (yi x.1).bind fun k => if k then zy fa fuel a x.2 else zy fa fuel b x.2 := rfl
noncomputable def zcc (ρ : Env) (xs : List AV) : Ans → Option (SV × Env)
  | .ok r outs => if r.fine && outs.all xQ then (xn ρ xs outs).map fun ρ' => (r, ρ') else none
  | .ex _ => none
@[simp] theorem zpI {xs : List AV} {r : SV} {outs : List D} : zcc ρ xs (.ok r outs) = if r.fine && outs.all xQ then (xn ρ xs outs).map fun ρ' => (r, ρ') else none := rfl
@[simp] theorem zpJ {f : Nat} {ma : MA} : wW fa (.call f ma) ρ = (wm (zx fa) ma ρ).bind fun xs => (fa f (xs.map jX)).bind (zcc ρ xs) := rfl
noncomputable def zcd (p : Prim) (k : Option (SV × Env)) : SV → Option (SV × Env)
  | .val d => if plain d then k.bind fun y => (ze p [d, zq y.1]).map fun z => (z, y.2) else none
  | _ => none
@[simp] theorem zpK {p : Prim} {k : Option (SV × Env)} {d : D} : zcd p k (.val d) = if plain d then k.bind fun y => (ze p [d, zq y.1]).map fun z => (z, y.2) else none := rfl
@[simp] theorem zpL {p : Prim} {a : E} {m : M} : wW fa (.op p a m) ρ = (zg (zx fa) a ρ).bind (zcd p (wW fa m ρ)) := rfl
@[simp] theorem zpM : wm fn .nil ρ = some [] := rfl
@[simp] theorem zpN {c : E} {r : MA} : wm fn (.e c r) ρ = (zg fn c ρ).bind fun x => (wD x).bind fun a => (wm fn r ρ).map (a :: ·) := rfl
noncomputable def VP : Option (Option SV) → Option D
  | some (some x) => x.cell
  | _ => none
@[simp] theorem zpO {i : Nat} : Yc ρ i = VP ρ[i]? := by
  unfold Yc VP
  rcases h : ρ[i]? with _ | _ | (d | ⟨_ | _, d⟩ | d) <;> rfl
@[simp] theorem zpP {d : D} : VP (some (some (.obj true d))) = some d := rfl
@[simp] theorem zpQ {d : D} : VP (some (some (.io d))) = some d := rfl
@[simp] theorem zpR {i : Nat} {r : MA} : wm fn (.s i r) ρ = (Yc ρ i).bind fun d => if jW d then (wm fn r ρ).map (.s i d :: ·) else none := rfl
@[simp] theorem zpS {t : Bool} {r : MA} : wm fn (.n t r) ρ = (wm fn r ρ).map (.n t :: ·) := rfl
@[simp] theorem zpT : xn ρ [] [] = some ρ := rfl
@[simp] theorem zpU {i : Nat} {d d' : D} {r : List AV} {ds : List D} : xn ρ (.s i d :: r) (d' :: ds) = xn (Vg ρ i d') r ds := rfl
@[simp] theorem zpV {t : Bool} {d' : D} {r : List AV} {ds : List D} : xn ρ (.n t :: r) (d' :: ds) = xn ρ r ds := rfl
@[simp] theorem zpW {d : D} {r : List AV} {ds : List D} : xn ρ (.e d :: r) ds = xn ρ r ds := rfl
@[simp] theorem zpX {d : List D} {r : List AV} {ds : List D} : xn ρ (.l d :: r) ds = xn ρ r ds := rfl
noncomputable def VQ (ρ : Env) (i : Nat) (d : D) : Option (Option SV) → Env
  | some (some x) => ρ.set i (some (x.put d))
  | _ => ρ
@[simp] theorem zpY {i : Nat} {d : D} : Vg ρ i d = VQ ρ i d ρ[i]? := by
  unfold Vg VQ
  rcases h : ρ[i]? with _ | _ | (d | ⟨_ | _, d⟩ | d) <;> rfl
@[simp] theorem zpZ {i : Nat} {d d0 : D} : VQ ρ i d (some (some (.obj true d0))) = ρ.set i (some (.obj true d)) := rfl
@[simp] theorem zp0 {i : Nat} {d d0 : D} : VQ ρ i d (some (some (.io d0))) = ρ.set i (some (.io d)) := rfl
@[simp] theorem zp1 {d : D} : jX (.e d) = d := rfl
@[simp] theorem zp2 {d : List D} : jX (.l d) = .lst d := rfl
@[simp] theorem zp3 {i : Nat} {d : D} : jX (.s i d) = d := rfl
@[simp] theorem zp4 {t : Bool} : jX (.n t) = .dct t [] [] := rfl
@[simp] theorem zp5 {l : List D} : wD (.val (.tup l)) = if plain (.tup l) then some (.e (.tup l)) else none := rfl
@[simp] theorem zp6 {i : Int} : wD (.val (.int i)) = some (.e (.int i)) := by simp [wD, plain]
@[simp] theorem zp7 {i : Bool} : wD (.val (.bl i)) = some (.e (.bl i)) := by simp [wD, plain]
@[simp] theorem zp8 {l : List D} : wD (.val (.lst l)) = if yE l then some (.l l) else none := rfl
@[simp] theorem zp9 {o : Bool} {l : List D} : wD (.obj o (.lst l)) = if yE l then some (.l l) else none := rfl
@[simp] theorem zqa {t : Bool} {ks vs : List D} : jW (.dct t ks vs) = yE vs := rfl
@[simp] theorem zqb {t : Bool} {ks vs : List D} : xQ (.dct t ks vs) = yE vs := rfl
@[simp] theorem zqc {vs : List D} : xQ (.lst vs) = yE vs := rfl
@[simp] theorem zqd {d : D} : SV.fine (.val d) = plain d := rfl
@[simp] theorem zqe {d : D} : SV.fine (.obj true d) = xQ d := rfl
@[simp] theorem zqf {e : E} : zB fa fuel (.ret e) ρ = (zg (zx fa) e ρ).bind fun r => if r.lent then none else some (.rt r, ρ) := rfl
noncomputable def kM (ρ : Env) (i : Nat) : Option (Option SV) → Option (Fl × Env)
  | some (some (.val d)) => some (.rt (.val d), ρ)
  | some (some (.obj _ d)) => some (.rt (.obj true d), ρ.set i none)
  | _ => none
@[simp] theorem zqg {i : Nat} {d : D} : kM ρ i (some (some (.val d))) = some (.rt (.val d), ρ) := rfl
@[simp] theorem zqh {i : Nat} {o : Bool} {d : D} : kM ρ i (some (some (.obj o d))) = some (.rt (.obj true d), ρ.set i none) := rfl
@[simp] theorem zqi {i : Nat} : zB fa fuel (.retV i) ρ = kM ρ i ρ[i]? := by
  rw [zaF]
  rcases h : ρ[i]? with _ | _ | (d | ⟨o, d⟩ | d) <;> rfl
@[simp] theorem zqj : zB fa fuel .retN ρ = some (.rt (.val .non), ρ) := rfl
@[simp] theorem zqk {c : E} {a b : Ss} : zB fa fuel (.ifs c a b) ρ = (zv (zx fa) c ρ).bind fun k => if k then zy fa fuel a ρ else zy fa fuel b ρ := rfl
theorem YC {i : Nat} {g : Bool} {src : Es} {body : Ss} : zB fa fuel (.for_ i g src body) ρ = (zM (zx fa) src ρ).bind fun rs => if rs.any SV.lent || !free ρ i then none else (zZ g rs).bind fun ds => yH i (zy fa fuel body) ds ρ := rfl
theorem zjQ {i j : Nat} {body : Ss} : zB fa fuel (.forK i j body) ρ = if free ρ i then (Yd ρ j).bind fun ks => (yH i (zy fa fuel body) ks ρ).bind Vi else none := rfl
@[simp] theorem zql : Vi (.nx, ρ) = some (.nx, ρ) := rfl
theorem zjR {c : E} {body : Ss} : zB fa fuel (.while_ c body) ρ = wo (zv (zx fa) c) (zy fa fuel body) fuel ρ := rfl
noncomputable def VS (ρ : Env) (j : Nat) : Option (Option SV) → Env
  | some (some (.obj true d)) => ρ.set j (some (.val d))
  | _ => ρ
@[simp] theorem zqm {j : Nat} : vN ρ j = VS ρ j ρ[j]? := by
  unfold vN VS
  rcases h : ρ[j]? with _ | _ | (d | ⟨_ | _, d⟩ | d) <;> rfl
@[simp] theorem zqn {j : Nat} {d : D} : VS ρ j (some (some (.val d))) = ρ := rfl
@[simp] theorem zqo {j : Nat} {d : D} : VS ρ j (some (some (.obj true d))) = ρ.set j (some (.val d)) := rfl
@[simp] theorem zqp {js : List Nat} {s : S} : zB fa fuel (.frz js s) ρ = zB fa fuel s (js.foldl vN ρ) := rfl
@[simp] theorem zqq : zB fa fuel .brk ρ = some (.br, ρ) := rfl
@[simp] theorem zqr : zB fa fuel .cnt ρ = some (.ct, ρ) := rfl
@[simp] theorem zqs : zB fa fuel .pass ρ = some (.nx, ρ) := rfl
@[simp] theorem zqt : zB fa fuel .stop ρ = none := rfl
@[simp] theorem zqu : zy fa fuel .nil ρ = some (.nx, ρ) := rfl
noncomputable def andThen (x : Fl × Env) (k : Env → Option (Fl × Env)) : Option (Fl × Env) := match x.1 with
  | .nx => k x.2
  | _ => some x
@[simp] theorem zqv {ρ : Env} {k : Env → Option (Fl × Env)} : andThen (.nx, ρ) k = k ρ := rfl
@[simp] theorem zqw {ρ : Env} {k : Env → Option (Fl × Env)} : andThen (.br, ρ) k = some (.br, ρ) := rfl
@[simp] theorem zqx {ρ : Env} {k : Env → Option (Fl × Env)} : andThen (.ct, ρ) k = some (.ct, ρ) := rfl
@[simp] theorem zqy {ρ : Env} {r : SV} {k : Env → Option (Fl × Env)} : andThen (.rt r, ρ) k = some (.rt r, ρ) := rfl
@[simp] theorem zce {s : S} {ss : Ss} : zy fa fuel (.cons s ss) ρ = (zB fa fuel s ρ).bind fun x => andThen x (zy fa fuel ss) := by
  exact id rfl
noncomputable def vB : Option (Fl × Env) → Option SV
  | some (.rt r, _) => some r
  | some (.nx, _) => some (.val .non)
  | _ => none
@[simp] theorem zqz {r : SV} {ρ : Env} : vB (some (.rt r, ρ)) = some r := rfl
@[simp] theorem zqA {ρ : Env} : vB (some (.nx, ρ)) = some (.val .non) := rfl
@[simp] theorem zqB : vB none = none := rfl
@[simp] theorem zqC {c : Prop} [Decidable c] {a b : Option (Fl × Env)} : vB (if c then a else b) = if c then vB a else vB b := by split <;> rfl
end
noncomputable def Zq : Option (Option SV) → Option SV
  | some (some (.val d)) => some (.val d)
  | some (some (.obj _ d)) => some (.obj false d)
  | some (some (.io d)) => some (.obj false d)
  | _ => none
@[simp] theorem zqD {ρ : Env} {i : Nat} : look ρ i = Zq ρ[i]? := by
  unfold look Zq
  rcases h : ρ[i]? with _ | _ | (d | ⟨o, d⟩ | d) <;> rfl
@[simp] theorem zqE {d : D} : Zq (some (some (.val d))) = some (.val d) := rfl
@[simp] theorem zqF {o : Bool} {d : D} : Zq (some (some (.obj o d))) = some (.obj false d) := rfl
@[simp] theorem zqG {d : D} : Zq (some (some (.io d))) = some (.obj false d) := rfl
@[simp] theorem zqH : Zq (some none) = none := rfl
@[simp] theorem zqI {d : D} : zq (.val d) = d := rfl
@[simp] theorem zqJ {o : Bool} {d : D} : zq (.obj o d) = d := rfl
@[simp] theorem zcf {d : D} : toD (.val d) = some d := rfl
@[simp] theorem zqK {d : D} : toD (.obj true d) = some d := rfl
@[simp] theorem zqL : xc [] = some [] := rfl
@[simp] theorem zqM {r : SV} {rs : List SV} : xc (r :: rs) = (toD r).bind fun d => (xc rs).map (d :: ·) := rfl
@[simp] theorem zqN {d : D} : SV.lent (.val d) = false := rfl
@[simp] theorem zqO {d : D} : SV.lent (.obj true d) = false := rfl
@[simp] theorem zqP {d : D} : SV.lent (.obj false d) = true := rfl
@[simp] theorem zqQ {i : Int} : zI i = some (.val (.int i)) := rfl
@[simp] theorem zqR {i : Bool} : ym i = some (.val (.bl i)) := rfl
@[simp] theorem zqS {b : Bool} : yi (.val (.bl b)) = some b := rfl
@[simp] theorem zqT {i : Int} : yi (.val (.int i)) = some (i != 0) := rfl
@[simp] theorem zqU : yi (.val .non) = some false := rfl
@[simp] theorem zqV {l : List D} : yi (.val (.tup l)) = some (!l.isEmpty) := rfl
@[simp] theorem zqW {l : List D} : yi (.val (.lst l)) = some (!l.isEmpty) := rfl
@[simp] theorem zqX {o : Bool} {l : List D} : yi (.obj o (.lst l)) = some (!l.isEmpty) := rfl
theorem zjS {rs : List SV} {r : Option SV} (h : rs.any SV.lent = false) : xR rs r = r := by
  unfold xR; rw [h]; cases r <;> rfl
theorem zjT {rs : List SV} {x : SV} (h : x.plain = true) : xR rs (some x) = some x := by
  unfold xR; simp [h]
@[simp] theorem zqY {rs : List SV} {x : Option SV} (h : rs.any SV.lent = false) : xR rs x = x := zjS h
@[simp] theorem zqZ {rs : List SV} {x : SV} (h : x.plain = true) : xR rs (some x) = some x := zjT h
@[simp] theorem zq0 {d : D} : SV.plain (.val d) = plain d := rfl
@[simp] theorem zq1 {o : Bool} {d : D} : SV.plain (.obj o d) = xQ d := rfl
@[simp] theorem zq2 {i : Int} : plain (.int i) = true := by simp [plain]
@[simp] theorem zq3 {i : Bool} : plain (.bl i) = true := by simp [plain]
@[simp] theorem zq4 : plain .non = true := by simp [plain]
@[simp] theorem zq5 {i : Str} : plain (.str i) = true := by simp [plain]
@[simp] theorem zq6 {l : List D} : plain (.tup l) = yE l := rfl
@[simp] theorem zq7 {l : List D} : plain (.lst l) = false := rfl
@[simp] theorem zq8 {t : Bool} {a b : List D} : plain (.dct t a b) = false := rfl
@[simp] theorem zq9 : yE [] = true := rfl
@[simp] theorem zra {x : D} {xs : List D} : yE (x :: xs) = (plain x && yE xs) := rfl
@[simp] theorem zrb {P : Nat → Option Fn} {fuel n : Nat} : zx (zR P fuel n) = zG P fuel n := rfl
theorem zcg : ∀ (k : Nat) (ds : List D), xI [] k ds = ds.map fun d => some (.val d)
  | _, [] => rfl
  | k, d :: r => by simp [xI, zcg (k + 1) r]
theorem zjU (x : Option (Fl × Env)) : (match jl [] x with | some (.ok r []) => some r | _ => none) = vB x := by
  rcases x with _ | ⟨_ | _ | _ | r, ρ⟩ <;> rfl
theorem zjV {P : Nat → Option Fn} {fuel n i : Nat} {F : Fn} {ds : List D} (h : P i = some F) (hl : ds.length = F.np) (hio : F.io = []) (hx : F.xb = none := by rfl) :
    zG P fuel (n + 1) i ds = vB (zy (zR P fuel n) fuel F.body (ds.map (fun d => some (.val d)) ++ List.replicate (F.nl - F.np) none)) := by
  unfold zG zx
  rw [zR, h]
  simp only [Option.bind_some, if_pos hl, hio, zcg, hx]
  exact zjU _
@[simp] theorem zrc {a b : Int} : ze .add [.int a, .int b] = some (.val (.int (a + b))) := rfl
theorem zjW {a b : List D} (h : a.length + b.length ≤ line) : ze .add [.lst a, .lst b] = some (.obj true (.lst (a ++ b))) := by simp only [ze, XW, if_pos h]
@[simp] theorem zrd {a b : Int} : ze .sub [.int a, .int b] = some (.val (.int (a - b))) := rfl
theorem zjX {a b : Int} (h : -(2 ^ 64) < b ∧ b < 2 ^ 64) : ze .mul [.int a, .int b] = some (.val (.int (a * b))) := by simp only [ze, XX, if_pos (Or.inr h : (-(2 ^ 64) < a ∧ a < 2 ^ 64) ∨ _), zI]
theorem YD {a b : Int} (h : 0 < b) : ze .mod [.int a, .int b] = some (.val (.int (a % b))) := by simp only [ze, XY, if_pos h, zI]
@[simp] theorem zre {a : Int} : ze .neg [.int a] = some (.val (.int (-a))) := rfl
theorem YF {a b : D} (h : zD 8 a = true) (h' : zD 8 b = true) : ze .eq [a, b] = some (.val (.bl (zE a b))) := by simp [ze, ZT, h, h']
theorem kN {a b : D} (h : zD 8 a = true) (h' : zD 8 b = true) : ze .ne [a, b] = some (.val (.bl (!zE a b))) := by simp [ze, ZU, h, h']
@[simp] theorem zrf {a b : Int} : ze .eq [.int a, .int b] = some (.val (.bl (a == b))) := by rw [YF rfl rfl, zE]
@[simp] theorem zrg {a b : Int} : ze .ne [.int a, .int b] = some (.val (.bl (a != b))) := by rw [kN rfl rfl, zE]; rfl
@[simp] theorem zrh {a b : Int} : ze .lt [.int a, .int b] = some (.val (.bl (decide (a < b)))) := rfl
@[simp] theorem zri {a b : Int} : ze .le [.int a, .int b] = some (.val (.bl (decide (a ≤ b)))) := rfl
@[simp] theorem zrj {a b : Int} : ze .gt [.int a, .int b] = some (.val (.bl (decide (b < a)))) := rfl
@[simp] theorem zrk {a b : Int} : ze .ge [.int a, .int b] = some (.val (.bl (decide (b ≤ a)))) := rfl
@[simp] theorem zrl {d : D} : ze .isN [d] = some (.val (.bl (wT d))) := rfl
@[simp] theorem zrm {d : D} : ze .notN [d] = some (.val (.bl (!wT d))) := rfl
@[simp] theorem zrn {l : List D} : ze .len [.tup l] = some (.val (.int l.length)) := rfl
@[simp] theorem zro {l : List D} : ze .len [.lst l] = some (.val (.int l.length)) := rfl
@[simp] theorem zrp {i : Int} : ze .abs [.int i] = some (.val (.int (if i < 0 then -i else i))) := rfl
@[simp] theorem zch {i j : Int} : ze .min2 [.int i, .int j] = some (.val (.int (if j < i then j else i))) := rfl
@[simp] theorem zci {i j : Int} : ze .max2 [.int i, .int j] = some (.val (.int (if j > i then j else i))) := rfl
theorem zjY {r : List Int} : ze .sumL [.lst (r.map D.int)] = some (.val (.int r.sum)) := by
  have : ∀ l : List Int, ints? (l.map D.int) = some l := fun l => by induction l with
    | nil => rfl
    | cons x l ih => simp [ints?, ih]
  simp only [ze, Ve, this, Option.bind_some, zI]
@[simp] theorem zrq {b : Bool} : ze .intOf [.bl b] = some (.val (.int (if b then 1 else 0))) := rfl
@[simp] theorem zrr {b : Int} : ze .intOf [.int b] = some (.val (.int b)) := rfl
@[simp] theorem zrs {l : List D} : ze .toList [.tup l] = some (.obj true (.lst l)) := rfl
@[simp] theorem zrt {l : List D} : ze .toList [.lst l] = some (.obj true (.lst l)) := rfl
@[simp] theorem zru {l : List D} : ze .toTup [.tup l] = some (.val (.tup l)) := rfl
@[simp] theorem zrv {l : List D} : ze .toTup [.lst l] = some (.val (.tup l)) := rfl
@[simp] theorem zrw {t : Ty} {d : D} : ze (.inst t) [d] = some (.val (.bl (wj t d))) := rfl
theorem zjZ {l : List D} {i : Int} : ze .idx [.tup l, .int i] = (atI l i).map .val := rfl
theorem kO {l : List D} {i : Int} : ze .idx [.lst l, .int i] = (atI l i).map .val := rfl
theorem atI_nat {α : Type} {l : List α} {k : Nat} (h : k < l.length) : atI l (k : Int) = some l[k] := by
  unfold atI ixN
  rw [if_pos (by omega), if_pos (by omega)]
  simp [h]
@[simp] theorem zrx {a b : D} : ze .idx [.tup [a, b], .int 0] = some (.val a) := rfl
@[simp] theorem zry {a b : D} : ze .idx [.tup [a, b], .int 1] = some (.val b) := rfl
@[simp] theorem zrz {b : Bool} : wj .bool (.bl b) = true := rfl
@[simp] theorem zrA {b : Int} : wj .bool (.int b) = false := rfl
@[simp] theorem zrB {b : Int} : wj .int (.int b) = true := rfl
@[simp] theorem zrC {l : List D} : wj .tuple (.tup l) = true := rfl
@[simp] theorem zrD {l : List D} : wj .list (.lst l) = true := rfl
@[simp] theorem zrE : wT .non = true := rfl
@[simp] theorem zrF {i : Int} : wT (.int i) = false := rfl
@[simp] theorem zrG {l : List D} : wT (.tup l) = false := rfl
@[simp] theorem zrH {l : List D} : wT (.lst l) = false := rfl
theorem kP {α : Type} {f : α → D} {test : D → Option Bool} {elt : D → Option SV} {t : α → Bool} {e : α → D} : ∀ {xs : List α}, (∀ x ∈ xs, test (f x) = some (t x)) → (∀ x ∈ xs, t x = true → (elt (f x)).bind toD = some (e x)) →
    yG test elt (xs.map f) = some ((xs.filter t).map e)
  | [], _, _ => rfl
  | d :: r, h1, h2 => by
    have ih := kP (xs := r) (fun x hx => h1 x (List.mem_cons_of_mem _ hx)) (fun x hx => h2 x (List.mem_cons_of_mem _ hx))
    rw [List.map_cons, yG, h1 d List.mem_cons_self]
    simp only [Option.bind_some]
    cases ht : t d with
    | false => simp [ih, ht]
    | true =>
      have h3 := h2 d List.mem_cons_self ht
      rw [jo1] at h3
      obtain ⟨x, e1, e2⟩ := h3
      simp [ih, ht, e1, e2]
theorem VT {fn : Nat → List D → Option SV} {ρ : Env} {g : Bool} {src : Es} {cond elt : E} {rs : List SV} {α : Type} {f : α → D} {xs : List α} (t : α → Bool) (e : α → D) (h : zM fn src ρ = some rs) (hi : zZ g rs = some (xs.map f)) (hl : xs.length ≤ line)
    (ht : ∀ x ∈ xs, zv fn cond (some (.val (f x)) :: ρ) = some (t x)) (he : ∀ x ∈ xs, t x = true → (zg fn elt (some (.val (f x)) :: ρ)).bind toD = some (e x)) :
    zg fn (.comp g src cond elt) ρ = some (.obj true (.lst ((xs.filter t).map e))) := by
  rw [zjJ, h]
  simp only [Option.bind_some, hi, List.length_map, if_pos hl]
  rw [kP ht he]; rfl
theorem Zr {fn : Nat → List D → Option SV} {ρ : Env} {g : Bool} {src : Es} {elt : E} {rs : List SV} {α : Type} {f : α → D} {xs : List α} (e : α → D) (h : zM fn src ρ = some rs) (hi : zZ g rs = some (xs.map f)) (hl : xs.length ≤ line)
    (he : ∀ x ∈ xs, (zg fn elt (some (.val (f x)) :: ρ)).bind toD = some (e x)) :
    zg fn (.comp g src (.bl true) elt) ρ = some (.obj true (.lst (xs.map e))) := by
  have := VT (fun _ => true) e h hi hl (fun _ _ => zjK) (fun x hx _ => he x hx)
  have e2 : xs.filter (fun _ => true) = xs := List.filter_eq_self.mpr fun _ _ => rfl
  rwa [e2] at this
theorem zcj {i : Nat} {body : Env → Option (Fl × Env)} (I : List D → Env → Prop) {ds : List D} : ∀ {post pre : List D} {ρ : Env}, ds = pre ++ post → I pre ρ →
    (∀ pre d post ρ, ds = pre ++ d :: post → I pre ρ → ∃ fl ρ', body (ρ.set i (some (.val d))) = some (fl, ρ') ∧ (fl = .nx ∨ fl = .ct) ∧ I (pre ++ [d]) ρ') →
    ∃ ρ', yH i body post ρ = some (.nx, ρ') ∧ I ds ρ'
  | [], pre, ρ, e, h, _ => ⟨ρ, rfl, by rw [e]; simpa using h⟩
  | d :: post, pre, ρ, e, h, st => by
    obtain ⟨fl, ρ1, e1, e2, h1⟩ := st pre d post ρ e h
    obtain ⟨ρ', e3, h3⟩ := zcj I (ds := ds) (post := post) (pre := pre ++ [d]) (ρ := ρ1) (by simp [e]) h1 st
    refine ⟨ρ', ?_, h3⟩
    rw [yH, e1]
    simp only [Option.bind_some]
    rcases e2 with rfl | rfl <;> exact e3
theorem zj0 {i : Nat} {body : Env → Option (Fl × Env)} (I : Nat → Env → Prop) {ds : List D} {ρ : Env} (h0 : I 0 ρ)
    (st : ∀ k ρ (hk : k < ds.length), I k ρ → ∃ fl ρ', body (ρ.set i (some (.val ds[k]))) = some (fl, ρ') ∧ (fl = .nx ∨ fl = .ct) ∧ I (k + 1) ρ') :
    ∃ ρ', yH i body ds ρ = some (.nx, ρ') ∧ I ds.length ρ' := by
  refine zcj (fun pre ρ => I pre.length ρ) (ds := ds) (post := ds) (pre := []) rfl h0 fun pre d post ρ e h => ?_
  subst e
  have hk : pre.length < (pre ++ d :: post).length := by simp
  obtain ⟨fl, ρ', h1, h2, h3⟩ := st pre.length ρ hk h
  refine ⟨fl, ρ', ?_, h2, by simpa using h3⟩
  rw [← h1]; simp
theorem kQ {i : Nat} {body : Env → Option (Fl × Env)} {α : Type} {f : α → D} {xs : List α} (I : Nat → Env → Prop) {ρ : Env} (h0 : I 0 ρ)
    (st : ∀ k ρ (hk : k < xs.length), I k ρ → ∃ fl ρ', body (ρ.set i (some (.val (f xs[k])))) = some (fl, ρ') ∧ (fl = .nx ∨ fl = .ct) ∧ I (k + 1) ρ') :
    ∃ ρ', yH i body (xs.map f) ρ = some (.nx, ρ') ∧ I xs.length ρ' := by
  have := zj0 (i := i) (body := body) I (ds := xs.map f) (ρ := ρ) h0 fun k ρ hk h => by
    obtain ⟨fl, ρ', h1, h2⟩ := st k ρ (by simpa using hk) h
    exact ⟨fl, ρ', by rw [List.getElem_map]; exact h1, h2⟩
  simpa using this
theorem zck {i : Nat} {body : Env → Option (Fl × Env)} (I : Nat → Env → Prop) {a : Int} {m : Nat} {ρ : Env} (h0 : I 0 ρ)
    (st : ∀ k ρ, k < m → I k ρ → ∃ fl ρ', body (ρ.set i (some (.val (.int (a + (k : Int)))))) = some (fl, ρ') ∧ (fl = .nx ∨ fl = .ct) ∧ I (k + 1) ρ') :
    ∃ ρ', yH i body ((List.range m).map fun (k : Nat) => D.int (a + (k : Int))) ρ = some (.nx, ρ') ∧ I m ρ' := by
  have := kQ (i := i) (body := body) (f := fun (k : Nat) => D.int (a + (k : Int))) (xs := List.range m) I (ρ := ρ) h0 fun k ρ hk h => by
    obtain ⟨fl, ρ', h1, h2⟩ := st k ρ (by simpa using hk) h
    exact ⟨fl, ρ', by rw [List.getElem_range]; exact h1, h2⟩
  simpa using this
theorem zcl {test : Env → Option Bool} {body : Env → Option (Fl × Env)} (I : Nat → Env → Prop) (J : Env → Prop) : ∀ {m n : Nat} {ρ : Env}, m < n → I m ρ →
    (∀ m ρ, I m ρ → (test ρ = some false ∧ J ρ) ∨ (test ρ = some true ∧ ∃ fl ρ' m', body ρ = some (fl, ρ') ∧ (fl = .nx ∨ fl = .ct) ∧ m' < m ∧ I m' ρ')) →
    ∃ ρ', wo test body n ρ = some (.nx, ρ') ∧ J ρ'
  | m, 0, ρ, hn, _, _ => by omega
  | m, n + 1, ρ, hn, h, st => by
    rcases st m ρ h with ⟨e, j⟩ | ⟨e, fl, ρ1, m', e1, e2, hm, h1⟩
    · exact ⟨ρ, by rw [wo, e]; rfl, j⟩
    · obtain ⟨ρ', e3, j⟩ := zcl I J (m := m') (n := n) (ρ := ρ1) (by omega) h1 st
      refine ⟨ρ', ?_, j⟩
      rw [wo, e]
      simp only [Option.bind_some, if_true, e1]
      rcases e2 with rfl | rfl <;> exact e3
section
variable {fa : Nat → List D → Option Ans} {fuel : Nat} {ρ : Env}
noncomputable def VU (k : Env → Option (FlX × Env)) : FlX × Env → Option (FlX × Env)
  | (.fl .nx, ρ) => k ρ
  | x => some x
@[simp] theorem zrI {k : Env → Option (FlX × Env)} : VU k (.fl .nx, ρ) = k ρ := rfl
@[simp] theorem zrJ {k : Env → Option (FlX × Env)} {r : SV} : VU k (.fl (.rt r), ρ) = some (.fl (.rt r), ρ) := rfl
@[simp] theorem zrK {k : Env → Option (FlX × Env)} {c : Nat} : VU k (.ex c, ρ) = some (.ex c, ρ) := rfl
@[simp] theorem zrL : xf fa fuel .nil ρ = some (.fl .nx, ρ) := by rw [xf]
@[simp] theorem zrM {t : T} {ts : Ts} : xf fa fuel (.cons t ts) ρ = (yQ fa fuel t ρ).bind (VU (xf fa fuel ts)) := by
  rw [xf]
  congr 1
  funext x
  rcases x with ⟨⟨_ | _ | _ | _⟩ | _, _⟩ <;> rfl
@[simp] theorem zrN {s : S} : yQ fa fuel (.pl s) ρ = (zB fa fuel s ρ).map fun x => (.fl x.1, x.2) := by rw [yQ]
@[simp] theorem zrO {c : Nat} : yQ fa fuel (.raise c) ρ = some (.ex c, ρ) := by rw [yQ]
@[simp] theorem zrP : yQ fa fuel .stuck ρ = none := by rw [yQ]
@[simp] theorem zrQ {c : E} {a b : Ts} : yQ fa fuel (.ifs c a b) ρ = (zv (zx fa) c ρ).bind fun k => if k then xf fa fuel a ρ else xf fa fuel b ρ := by rw [yQ]
noncomputable def kR (ρ : Env) : Ans → Option (FlX × Env)
  | .ok _ [] => some (.fl .nx, ρ)
  | .ex c => some (.ex c, ρ)
  | _ => none
@[simp] theorem zrR {r : SV} : kR ρ (.ok r []) = some (.fl .nx, ρ) := rfl
@[simp] theorem zrS {c : Nat} : kR ρ (.ex c) = some (.ex c, ρ) := rfl
@[simp] theorem zrT {i : Nat} {es : Es} : yQ fa fuel (.callX i es) ρ = (wY fa i es ρ).bind (kR ρ) := by rw [yQ]; rfl
noncomputable def kS (ρ : Env) : Ans → Option (FlX × Env)
  | .ok r [] => if r.lent then none else some (.fl (.rt r), ρ)
  | .ex c => some (.ex c, ρ)
  | _ => none
@[simp] theorem zrU {r : SV} : kS ρ (.ok r []) = if r.lent then none else some (.fl (.rt r), ρ) := rfl
@[simp] theorem zrV {c : Nat} : kS ρ (.ex c) = some (.ex c, ρ) := rfl
@[simp] theorem zrW {i : Nat} {es : Es} : yQ fa fuel (.retX i es) ρ = (wY fa i es ρ).bind (kS ρ) := by rw [yQ]; rfl
noncomputable def zcm (k : Nat) (ρ : Env) : Ans → Option (FlX × Env)
  | .ok r [] => if r.lent || !free ρ k then none else some (.fl .nx, ρ.set k (some r))
  | .ex c => some (.ex c, ρ)
  | _ => none
@[simp] theorem zrX {k c : Nat} : zcm k ρ (.ex c) = some (.ex c, ρ) := rfl
@[simp] theorem zrY {k i : Nat} {es : Es} : yQ fa fuel (.asgX k i es) ρ = (wY fa i es ρ).bind (zcm k ρ) := by rw [yQ]; rfl
noncomputable def zcn (neg : Bool) (a b : Option (FlX × Env)) (ρ : Env) : Ans → Option (FlX × Env)
  | .ok (.val (.bl k)) [] => if k != neg then a else b
  | .ex c => some (.ex c, ρ)
  | _ => none
@[simp] theorem zrZ {neg : Bool} {a b : Option (FlX × Env)} {c : Nat} : zcn neg a b ρ (.ex c) = some (.ex c, ρ) := rfl
@[simp] theorem zr0 {neg : Bool} {i : Nat} {es : Es} {a b : Ts} : yQ fa fuel (.ifX neg i es a b) ρ = (wY fa i es ρ).bind (zcn neg (xf fa fuel a ρ) (xf fa fuel b ρ) ρ) := by rw [yQ]; rfl
noncomputable def kU (cs : List Nat) (h : Hd) : FlX × Env → Option (FlX × Env)
  | (.ex c, ρ) => if cs.contains c then Qv c ρ h else none
  | x => some x
@[simp] theorem zr1 {cs : List Nat} {h : Hd} {f : Fl} : kU cs h (.fl f, ρ) = some (.fl f, ρ) := rfl
@[simp] theorem zr2 {cs : List Nat} {h : Hd} {c : Nat} : kU cs h (.ex c, ρ) = if cs.contains c then Qv c ρ h else none := rfl
@[simp] theorem zr3 {b : Ts} {k : Nat} {cs : List Nat} {h : Hd} : yQ fa fuel (.tryX b k cs h) ρ = (xf fa fuel b ρ).bind (kU cs h) := by
  rw [yQ]
  congr 1
  funext x
  rcases x with ⟨_ | _, _⟩ <;> rfl
@[simp] theorem zr4 {i : Nat} {es : Es} : wY fa i es ρ = (zM (zx fa) es ρ).bind fun rs => if rs.any SV.lent then none else fa i (rs.map zq) := rfl
@[simp] theorem zr5 {r : SV} : Vj (some (.fl (.rt r), ρ)) = some (.ok r []) := rfl
@[simp] theorem zr6 : Vj (some (.fl .nx, ρ)) = some (.ok (.val .non) []) := rfl
@[simp] theorem zr7 {c : Nat} : Vj (some (.ex c, ρ)) = some (.ex c) := rfl
end
end L2.LW
namespace LK
open L2.LW
noncomputable def YG : Ss := (.cons (.ifs (.or (.prim (.inst .bool) (.cons (.var 0) .nil)) (.not (.prim (.inst .int) (.cons (.var 0) .nil)))) (.cons (.ret (.bl false))
    .nil) .nil)
    (.cons (.ret (.chain .le .le (.var 1) (.var 0) (.var 2)))
    .nil))
noncomputable def YH : Ss := (.cons (.ret (.and (.prim (.inst .tuple) (.cons (.var 0) .nil)) (.prim .eq (.cons (.prim .len (.cons (.var 0) .nil)) (.cons (.int 2) .nil)))))
    .nil)
noncomputable def YI : Ss := (.cons (.ret (.and (.call 1 (.cons (.var 0) .nil)) (.and (.call 0 (.cons (.prim .idx (.cons (.var 0) (.cons (.int 0) .nil))) (.cons (.int 0) (.cons (.int 7) .nil)))) (.call 0 (.cons (.prim .idx (.cons (.var 0) (.cons (.int 1) .nil))) (.cons (.int 0) (.cons (.int 7) .nil)))))))
    .nil)
noncomputable def YJ : Ss := (.cons (.ret (.and (.call 1 (.cons (.var 0) .nil)) (.and (.call 0 (.cons (.prim .idx (.cons (.var 0) (.cons (.int 1) .nil))) (.cons (.int 1) (.cons (.int 4) .nil)))) (.call 0 (.cons (.prim .idx (.cons (.var 0) (.cons (.int 0) .nil))) (.cons (.int 0) (.cons (.prim .idx (.cons (.var 0) (.cons (.int 1) .nil))) .nil)))))))
    .nil)
noncomputable def YK : Ss := (.cons (.ret (.prim .all (.cons (.comp true (.cons (.int 1) (.cons (.prim .len (.cons (.var 0) .nil)) .nil)) (.bl true) (.prim .lt (.cons (.prim .idx (.cons (.var 1) (.cons (.prim .sub (.cons (.var 0) (.cons (.int 1) .nil))) .nil))) (.cons (.prim .idx (.cons (.var 1) (.cons (.var 0) .nil))) .nil)))) .nil)))
    .nil)
noncomputable def YL : Ss := (.cons (.ifs (.or (.not (.prim (.inst .tuple) (.cons (.var 0) .nil))) (.not (.chain .le .le (.int 1) (.prim .len (.cons (.var 0) .nil)) (.int 24)))) (.cons (.ret (.bl false))
    .nil) .nil)
    (.cons (.ret (.and (.prim .all (.cons (.comp false (.cons (.var 0) .nil) (.bl true) (.call 2 (.cons (.var 0) .nil))) .nil)) (.call 4 (.cons (.var 0) .nil))))
    .nil))
noncomputable def YM : Ss := (.cons (.ifs (.not (.call 5 (.cons (.var 0) .nil))) (.cons .stop
    .nil) .nil)
    (.cons (.retV 0)
    .nil))
noncomputable def YN : Ss := (.cons (.ifs (.not (.call 3 (.cons (.var 0) .nil))) (.cons .stop
    .nil) .nil)
    (.cons (.retV 0)
    .nil))
noncomputable def YO : Ss := (.cons (.ret (.tup (.cons (.prim .min2 (.cons (.prim .abs (.cons (.var 0) .nil)) (.cons (.prim .abs (.cons (.var 1) .nil)) .nil))) (.cons (.prim .max2 (.cons (.prim .abs (.cons (.var 0) .nil)) (.cons (.prim .abs (.cons (.var 1) .nil)) .nil))) .nil))))
    .nil)
noncomputable def YQ : Ss := (.cons (.ret (.prim .eq (.cons (.call 9 (.cons (.prim .sub (.cons (.prim .idx (.cons (.var 2) (.cons (.int 0) .nil))) (.cons (.prim .idx (.cons (.var 1) (.cons (.int 0) .nil))) .nil))) (.cons (.prim .sub (.cons (.prim .idx (.cons (.var 2) (.cons (.int 1) .nil))) (.cons (.prim .idx (.cons (.var 1) (.cons (.int 1) .nil))) .nil))) .nil))) (.cons (.var 0) .nil))))
    .nil)
noncomputable def YR : Ss := (.cons (.ifs (.prim .lt (.cons (.var 1) (.cons (.prim .len (.cons (.var 0) .nil)) .nil))) (.cons (.ret (.prim .idx (.cons (.var 0) (.cons (.var 1) .nil))))
    .nil) .nil)
    (.cons (.ret (.int 0))
    .nil))
noncomputable def YS : Ss := (.cons (.ret (.prim .mod (.cons (.prim .mod (.cons (.prim .mul (.cons (.var 0) (.cons (.int 48271) .nil))) (.cons (.var 1) .nil))) (.cons (.var 2) .nil))))
    .nil)
noncomputable def VV : Ss := (.cons (.asg 12 (.prim .add (.cons (.prim .add (.cons (.call 13 (.cons (.var 0) (.cons (.prim .add (.cons (.prim .add (.cons (.var 1) (.cons (.int 2) .nil))) (.cons (.prim .mod (.cons (.prim .add (.cons (.var 10) (.cons (.prim .mul (.cons (.int 2) (.cons (.var 11) .nil))) .nil))) (.cons (.int 7) .nil))) .nil))) .nil))) (.cons (.prim .mul (.cons (.prim .mul (.cons (.int 31) (.cons (.var 10) .nil))) (.cons (.var 10) .nil))) .nil))) (.cons (.prim .mul (.cons (.prim .mul (.cons (.int 57) (.cons (.var 11) .nil))) (.cons (.var 11) .nil))) .nil))))
    (.cons (.ifs (.or (.prim .eq (.cons (.var 8) (.cons (.int 0) .nil))) (.prim .gt (.cons (.call 14 (.cons (.var 12) (.cons (.int 9931) (.cons (.prim .idx (.cons (.lst (.cons (.int 2) (.cons (.int 4) (.cons (.int 7) .nil)))) (.cons (.prim .sub (.cons (.var 8) (.cons (.int 1) .nil))) .nil))) .nil)))) (.cons (.int 0) .nil)))) (.cons (.app 9 (.tup (.cons (.prim .add (.cons (.var 6) (.cons (.var 10) .nil))) (.cons (.prim .add (.cons (.var 7) (.cons (.var 11) .nil))) .nil))))
    .nil) .nil)
    .nil))
noncomputable def YT : Ss := (.cons (.for_ 11 true (.cons (.var 5) .nil) VV)
    .nil)
noncomputable def YU : Ss := (.cons (.asg 3 (.call 13 (.cons (.var 0) (.cons (.var 1) .nil))))
    (.cons (.asg 4 (.prim .add (.cons (.int 1) (.cons (.call 14 (.cons (.var 3) (.cons (.int 9973) (.cons (.int 5) .nil)))) .nil))))
    (.cons (.asg 5 (.prim .add (.cons (.int 1) (.cons (.call 14 (.cons (.var 3) (.cons (.int 9967) (.cons (.int 6) .nil)))) .nil))))
    (.cons (.asg 6 (.call 14 (.cons (.call 13 (.cons (.var 0) (.cons (.prim .add (.cons (.var 1) (.cons (.int 1) .nil))) .nil))) (.cons (.int 9949) (.cons (.prim .sub (.cons (.int 9) (.cons (.var 4) .nil))) .nil)))))
    (.cons (.asg 7 (.call 14 (.cons (.call 13 (.cons (.var 0) (.cons (.prim .add (.cons (.var 1) (.cons (.int 1) .nil))) .nil))) (.cons (.int 9941) (.cons (.prim .sub (.cons (.int 9) (.cons (.var 5) .nil))) .nil)))))
    (.cons (.asg 8 (.call 14 (.cons (.prim .add (.cons (.var 3) (.cons (.int 3) .nil))) (.cons (.int 9907) (.cons (.int 4) .nil)))))
    (.cons (.asg 9 (.lst .nil))
    (.cons (.for_ 10 true (.cons (.var 4) .nil) YT)
    (.cons (.ifs (.not (.var 9)) (.cons (.asg 9 (.lst (.cons (.tup (.cons (.var 6) (.cons (.var 7) .nil))) .nil)))
    .nil) .nil)
    (.cons (.ret (.prim .toTup (.cons (.prim .cutTo (.cons (.var 9) (.cons (.var 2) .nil))) .nil)))
    .nil))))))))))
noncomputable def YV : Ss := (.cons (.asg 1 (.lst (.cons (.tup (.cons (.int 1) (.cons (.int 2) .nil))) (.cons (.tup (.cons (.int 0) (.cons (.int 1) .nil))) (.cons (.tup (.cons (.int 1) (.cons (.int 1) .nil))) (.cons (.tup (.cons (.int 1) (.cons (.int 2) .nil))) (.cons (.tup (.cons (.int 0) (.cons (.int 2) .nil))) (.cons (.tup (.cons (.int 1) (.cons (.int 3) .nil))) (.cons (.tup (.cons (.int 2) (.cons (.int 3) .nil))) (.cons (.tup (.cons (.int 0) (.cons (.int 1) .nil))) (.cons (.tup (.cons (.int 1) (.cons (.int 2) .nil))) (.cons (.tup (.cons (.int 2) (.cons (.int 2) .nil))) (.cons (.tup (.cons (.int 0) (.cons (.int 3) .nil))) (.cons (.tup (.cons (.int 1) (.cons (.int 4) .nil))) (.cons (.tup (.cons (.int 2) (.cons (.int 4) .nil))) .nil)))))))))))))))
    (.cons (.ret (.prim .idx (.cons (.prim .add (.cons (.var 1) (.cons (.lst (.cons (.tup (.cons (.int 3) (.cons (.int 3) .nil))) (.cons (.tup (.cons (.int 3) (.cons (.int 4) .nil))) (.cons (.tup (.cons (.int 0) (.cons (.int 4) .nil))) (.cons (.tup (.cons (.int 4) (.cons (.int 4) .nil))) (.cons (.tup (.cons (.int 1) (.cons (.int 2) .nil))) (.cons (.tup (.cons (.int 1) (.cons (.int 1) .nil))) .nil))))))) .nil))) (.cons (.prim .mod (.cons (.var 0) (.cons (.int 19) .nil))) .nil))))
    .nil))
noncomputable def YW : Ss := (.cons (.ret (.prim .eq (.cons (.prim .sorted (.cons (.lst (.cons (.prim .abs (.cons (.prim .sub (.cons (.prim .idx (.cons (.var 1) (.cons (.int 0) .nil))) (.cons (.prim .idx (.cons (.var 2) (.cons (.int 0) .nil))) .nil))) .nil)) (.cons (.prim .abs (.cons (.prim .sub (.cons (.prim .idx (.cons (.var 1) (.cons (.int 1) .nil))) (.cons (.prim .idx (.cons (.var 2) (.cons (.int 1) .nil))) .nil))) .nil)) .nil))) .nil)) (.cons (.prim .toList (.cons (.var 0) .nil)) .nil))))
    .nil)
noncomputable def YX : Ss := (.cons (.ifs (.prim .gt (.cons (.prim .len (.cons (.var 0) .nil)) (.cons (.var 1) .nil))) (.cons .stop
    .nil) .nil)
    .nil)
noncomputable def YY : Ss := (.cons (.ret (.prim .sumL (.cons (.compE (.var 0) (.call 10 (.cons (.var 3) (.cons (.var 4) (.cons (.var 1) .nil)))) (.prim .shl (.cons (.int 1) (.cons (.var 0) .nil)))) .nil)))
    .nil)
noncomputable def VW : Ss := (.cons (.ifs (.prim .ne (.cons (.prim .band (.cons (.var 1) (.cons (.prim .shl (.cons (.int 1) (.cons (.var 3) .nil))) .nil))) (.cons (.int 0) .nil))) (.cons (.dset 2 (.prim .shl (.cons (.int 1) (.cons (.var 3) .nil))) (.prim .shl (.cons (.int 1) (.cons (.var 3) .nil))))
    .nil) .nil)
    .nil)
noncomputable def YZ : Ss := (.cons (.asg 2 (.dnew false))
    (.cons (.for_ 3 true (.cons (.var 0) .nil) VW)
    (.cons (.retV 2)
    .nil)))
noncomputable def Zs : Ss := (.cons (.asg 5 (.prim .shl (.cons (.int 1) (.cons (.var 4) .nil))))
    (.cons (.ifs (.and (.prim .eq (.cons (.prim .band (.cons (.var 3) (.cons (.var 5) .nil))) (.cons (.int 0) .nil))) (.prim .ne (.cons (.prim .band (.cons (.prim .idx (.cons (.var 1) (.cons (.var 3) .nil))) (.cons (.prim .idx (.cons (.var 0) (.cons (.var 4) .nil))) .nil))) (.cons (.int 0) .nil)))) (.cons (.dset 2 (.prim .bor (.cons (.var 3) (.cons (.var 5) .nil))) (.prim .bor (.cons (.prim .dget (.cons (.var 2) (.cons (.prim .bor (.cons (.var 3) (.cons (.var 5) .nil))) (.cons (.int 0) .nil)))) (.cons (.var 5) .nil))))
    .nil) .nil)
    .nil))
noncomputable def VX : Ss := (.cons (.for_ 4 true (.cons (.prim .len (.cons (.var 0) .nil)) .nil) Zs)
    .nil)
noncomputable def Xa : Ss := (.cons (.asg 2 (.dnew false))
    (.cons (.forK 3 1 VX)
    (.cons (.retV 2)
    .nil)))
noncomputable def kW : Ss := (.cons (.app 2 (.call 64 (.cons (.var 0) (.cons (.prim .idx (.cons (.var 2) (.cons (.prim .neg (.cons (.int 1) .nil)) .nil))) .nil))))
    .nil)
noncomputable def Xb : Ss := (.cons (.asg 2 (.lst (.cons (.call 63 (.cons (.prim .len (.cons (.var 0) .nil)) (.cons (.var 1) .nil))) .nil)))
    (.cons (.while_ (.prim .lt (.cons (.prim .len (.cons (.var 2) .nil)) (.cons (.prim .len (.cons (.var 0) .nil)) .nil))) kW)
    (.cons (.retV 2)
    .nil)))
noncomputable def VY : Ss := (.cons (.asg 8 (.prim .sub (.cons (.prim .blen (.cons (.prim .band (.cons (.prim .idx (.cons (.var 7) (.cons (.var 5) .nil))) (.cons (.var 3) .nil))) .nil)) (.cons (.int 1) .nil))))
    (.cons (.app 6 (.prim .idx (.cons (.var 0) (.cons (.var 8) .nil))))
    (.cons (.asg 5 (.prim .bxor (.cons (.var 5) (.cons (.prim .shl (.cons (.int 1) (.cons (.var 8) .nil))) .nil))))
    (.cons (.asg 3 (.prim .idx (.cons (.var 1) (.cons (.var 8) .nil))))
    .nil))))
noncomputable def Zt : Ss := (.cons (.asg 4 (.call 65 (.cons (.var 1) (.cons (.var 2) .nil))))
    (.cons (.asg 5 (.prim .sub (.cons (.prim .shl (.cons (.int 1) (.cons (.prim .len (.cons (.var 0) .nil)) .nil))) (.cons (.int 1) .nil))))
    (.cons (.ifs (.prim .eq (.cons (.prim .band (.cons (.prim .dget (.cons (.prim .idx (.cons (.var 4) (.cons (.prim .neg (.cons (.int 1) .nil)) .nil))) (.cons (.var 5) (.cons (.int 0) .nil)))) (.cons (.var 3) .nil))) (.cons (.int 0) .nil))) (.cons (.ret .non)
    .nil) .nil)
    (.cons (.asg 6 (.lst .nil))
    (.cons (.frz [4] (.for_ 7 false (.cons (.var 4) (.cons .non .nil)) VY))
    (.cons (.retV 6)
    .nil))))))
noncomputable def Zu : Ss := (.cons (.expr (.call 6 (.cons (.var 0) .nil)))
    (.cons (.expr (.call 7 (.cons (.var 1) .nil)))
    (.cons (.expr (.call 61 (.cons (.var 0) (.cons (.int 16) .nil))))
    (.cons (.asg 2 (.comp false (.cons (.var 0) .nil) (.bl true) (.call 62 (.cons (.var 1) (.cons (.var 2) (.cons (.var 0) .nil))))))
    (.cons (.asg 3 (.prim .sub (.cons (.prim .shl (.cons (.int 1) (.cons (.prim .len (.cons (.var 0) .nil)) .nil))) (.cons (.int 1) .nil))))
    (.cons (.ret (.call 66 (.cons (.var 0) (.cons (.var 2) (.cons (.var 3) (.cons (.var 3) .nil))))))
    .nil))))))
noncomputable def jr : Ss := (.cons (.expr (.call 6 (.cons (.var 0) .nil)))
    (.cons (.expr (.call 7 (.cons (.var 1) .nil)))
    (.cons (.expr (.call 61 (.cons (.var 0) (.cons (.int 16) .nil))))
    (.cons (.ifs (.prim .lt (.cons (.prim .len (.cons (.var 0) .nil)) (.cons (.int 3) .nil))) (.cons (.ret .non)
    .nil) .nil)
    (.cons (.asg 2 (.comp false (.cons (.var 0) .nil) (.bl true) (.call 62 (.cons (.var 1) (.cons (.var 2) (.cons (.var 0) .nil))))))
    (.cons (.ret (.call 66 (.cons (.var 0) (.cons (.var 2) (.cons (.int 1) (.cons (.prim .idx (.cons (.var 2) (.cons (.int 0) .nil))) .nil))))))
    .nil))))))
noncomputable def Xc : Ss := (.cons (.ifs (.or (.not (.prim (.inst .list) (.cons (.var 2) .nil))) (.prim .ne (.cons (.prim .sorted (.cons (.var 2) .nil)) (.cons (.prim .toList (.cons (.var 0) .nil)) .nil)))) (.cons (.ret (.bl false))
    .nil) .nil)
    (.cons (.ret (.prim .eq (.cons (.comp true (.cons (.int 1) (.cons (.prim .len (.cons (.var 2) .nil)) .nil)) (.not (.call 17 (.cons (.var 2) (.cons (.prim .idx (.cons (.var 3) (.cons (.prim .sub (.cons (.var 0) (.cons (.int 1) .nil))) .nil))) (.cons (.prim .idx (.cons (.var 3) (.cons (.var 0) .nil))) .nil))))) (.var 0)) (.cons (.lst .nil) .nil))))
    .nil))
noncomputable def Xd : Ss := (.cons (.asg 3 (.prim .len (.cons (.var 0) .nil)))
    (.cons (.asg 4 (.comp true (.cons (.var 3) .nil) (.bl true) (.comp true (.cons (.var 4) .nil) (.call 17 (.cons (.var 3) (.cons (.prim .idx (.cons (.var 2) (.cons (.var 1) .nil))) (.cons (.prim .idx (.cons (.var 2) (.cons (.var 0) .nil))) .nil)))) (.var 0))))
    (.cons .ends
    (.cons (.ret (.comp false (.cons (.prim .dgetL (.cons (.var 5) (.cons (.prim .sub (.cons (.prim .shl (.cons (.int 1) (.cons (.var 3) .nil))) (.cons (.int 1) .nil))) (.cons (.lst .nil) .nil)))) .nil) (.bl true) (.prim .idx (.cons (.var 1) (.cons (.var 0) .nil)))))
    .nil))))
noncomputable def Xe : Ss := (.cons (.asg 1 (.int 10))
    (.cons (.ifs (.prim .eq (.cons (.prim .mod (.cons (.call 13 (.cons (.var 0) (.cons (.int 1) .nil))) (.cons (.int 4) .nil))) (.cons (.int 3) .nil))) (.cons (.asg 1 (.int 16))
    .nil) .nil)
    (.cons (.asg 2 (.call 15 (.cons (.var 0) (.cons (.int 2) (.cons (.var 1) .nil)))))
    (.cons (.asg 3 (.call 16 (.cons (.call 13 (.cons (.var 0) (.cons (.int 0) .nil))) .nil)))
    (.cons (.asg 4 (.call 67 (.cons (.var 2) (.cons (.var 3) .nil))))
    (.cons (.asg 5 (.call 68 (.cons (.var 2) (.cons (.var 3) .nil))))
    (.cons (.ifs (.and (.prim .notN (.cons (.var 4) .nil)) (.not (.call 74 (.cons (.var 2) (.cons (.var 3) (.cons (.var 4) .nil)))))) (.cons (.ret (.bl false))
    .nil) .nil)
    (.cons (.ifs (.prim .notN (.cons (.var 5) .nil)) (.cons (.ifs (.or (.prim .lt (.cons (.prim .len (.cons (.var 5) .nil)) (.cons (.int 3) .nil))) (.or (.not (.call 74 (.cons (.var 2) (.cons (.var 3) (.cons (.var 5) .nil))))) (.not (.call 17 (.cons (.var 3) (.cons (.prim .idx (.cons (.var 5) (.cons (.int 0) .nil))) (.cons (.prim .idx (.cons (.var 5) (.cons (.prim .neg (.cons (.int 1) .nil)) .nil))) .nil))))))) (.cons (.ret (.bl false))
    .nil) .nil)
    (.cons (.ifs (.prim .isN (.cons (.var 4) .nil)) (.cons (.ret (.bl false))
    .nil) .nil)
    .nil)) .nil)
    (.cons (.ifs (.prim .eq (.cons (.var 1) (.cons (.int 16) .nil))) (.cons (.ret (.bl true))
    .nil) .nil)
    (.cons (.asg 6 (.prim .ne (.cons (.call 75 (.cons (.var 2) (.cons (.var 3) (.cons (.prim .rngL (.cons (.prim .len (.cons (.var 2) .nil)) .nil)) .nil)))) (.cons (.lst .nil) .nil))))
    (.cons (.asg 7 (.comp false (.cons (.call 75 (.cons (.var 2) (.cons (.var 3) (.cons (.lst (.cons (.int 0) .nil)) .nil)))) .nil) (.call 17 (.cons (.var 4) (.cons (.var 0) (.cons (.prim .idx (.cons (.var 3) (.cons (.int 0) .nil))) .nil)))) (.var 0)))
    (.cons (.ret (.and (.prim .eq (.cons (.prim .notN (.cons (.var 4) .nil)) (.cons (.var 6) .nil))) (.prim .eq (.cons (.prim .notN (.cons (.var 5) .nil)) (.cons (.and (.prim .gt (.cons (.prim .len (.cons (.var 2) .nil)) (.cons (.int 2) .nil))) (.prim .ne (.cons (.var 7) (.cons (.lst .nil) .nil)))) .nil)))))
    .nil))))))))))))
noncomputable def U : Nat → Option Fn
  | 0 => some ⟨3, 3, YG, [], none⟩
  | 1 => some ⟨1, 1, YH, [], none⟩
  | 2 => some ⟨1, 1, YI, [], none⟩
  | 3 => some ⟨1, 1, YJ, [], none⟩
  | 4 => some ⟨1, 1, YK, [], none⟩
  | 5 => some ⟨1, 1, YL, [], none⟩
  | 6 => some ⟨1, 1, YM, [], none⟩
  | 7 => some ⟨1, 1, YN, [], none⟩
  | 9 => some ⟨2, 2, YO, [], none⟩
  | 10 => some ⟨3, 3, YQ, [], none⟩
  | 13 => some ⟨2, 2, YR, [], none⟩
  | 14 => some ⟨3, 3, YS, [], none⟩
  | 15 => some ⟨3, 13, YU, [], none⟩
  | 16 => some ⟨1, 2, YV, [], none⟩
  | 17 => some ⟨3, 3, YW, [], none⟩
  | 61 => some ⟨2, 2, YX, [], none⟩
  | 62 => some ⟨3, 3, YY, [], none⟩
  | 63 => some ⟨2, 4, YZ, [], none⟩
  | 64 => some ⟨2, 6, Xa, [], none⟩
  | 65 => some ⟨2, 3, Xb, [], none⟩
  | 66 => some ⟨4, 9, Zt, [], none⟩
  | 67 => some ⟨2, 4, Zu, [], none⟩
  | 68 => some ⟨2, 3, jr, [], none⟩
  | 74 => some ⟨3, 3, Xc, [], none⟩
  | 75 => some ⟨3, 11, Xd, [], none⟩
  | 76 => some ⟨1, 8, Xe, [], none⟩
  | _ => none
theorem U0 : U 0 = some ⟨3, 3, YG, [], none⟩ := rfl
theorem U1 : U 1 = some ⟨1, 1, YH, [], none⟩ := rfl
theorem U2 : U 2 = some ⟨1, 1, YI, [], none⟩ := rfl
theorem U3 : U 3 = some ⟨1, 1, YJ, [], none⟩ := rfl
theorem U4 : U 4 = some ⟨1, 1, YK, [], none⟩ := rfl
theorem U5 : U 5 = some ⟨1, 1, YL, [], none⟩ := rfl
theorem U6 : U 6 = some ⟨1, 1, YM, [], none⟩ := rfl
theorem U7 : U 7 = some ⟨1, 1, YN, [], none⟩ := rfl
theorem U9 : U 9 = some ⟨2, 2, YO, [], none⟩ := rfl
theorem zj1 : U 10 = some ⟨3, 3, YQ, [], none⟩ := rfl
theorem zj2 : U 13 = some ⟨2, 2, YR, [], none⟩ := rfl
theorem zj3 : U 14 = some ⟨3, 3, YS, [], none⟩ := rfl
theorem zj4 : U 15 = some ⟨3, 13, YU, [], none⟩ := rfl
theorem zj5 : U 16 = some ⟨1, 2, YV, [], none⟩ := rfl
theorem zj6 : U 17 = some ⟨3, 3, YW, [], none⟩ := rfl
theorem zj7 : U 61 = some ⟨2, 2, YX, [], none⟩ := rfl
theorem zj8 : U 62 = some ⟨3, 3, YY, [], none⟩ := rfl
theorem zj9 : U 63 = some ⟨2, 4, YZ, [], none⟩ := rfl
theorem zka : U 64 = some ⟨2, 6, Xa, [], none⟩ := rfl
theorem zkb : U 65 = some ⟨2, 3, Xb, [], none⟩ := rfl
theorem zkc : U 66 = some ⟨4, 9, Zt, [], none⟩ := rfl
theorem zkd : U 67 = some ⟨2, 4, Zu, [], none⟩ := rfl
theorem zke : U 68 = some ⟨2, 3, jr, [], none⟩ := rfl
theorem zkf : U 74 = some ⟨3, 3, Xc, [], none⟩ := rfl
theorem zkg : U 75 = some ⟨3, 11, Xd, [], none⟩ := rfl
theorem zkh : U 76 = some ⟨1, 8, Xe, [], none⟩ := rfl
end LK
namespace LK
open L2.LW
noncomputable def zp : Nat := 100000
noncomputable abbrev call (n i : Nat) (ds : List D) : Option SV := zG U zp n i ds
theorem yq {n i : Nat} {F : Fn} {ds : List D} (h : U i = some F) (hl : ds.length = F.np) (hio : F.io = [] := by rfl) (hx : F.xb = none := by rfl) :
    zG U zp (n + 1) i ds = vB (zy (zR U zp n) zp F.body (ds.map (fun d => some (.val d)) ++ List.replicate (F.nl - F.np) none)) := zjV h hl hio hx
noncomputable abbrev zd := Int × Int
noncomputable def cD (c : zd) : D := .tup [.int c.1, .int c.2]
noncomputable def fD (f : List zd) : D := .tup (f.map cD)
noncomputable def lD (f : List zd) : D := .lst (f.map cD)
@[simp] theorem zr8 {c : zd} : plain (cD c) = true := by simp [cD]
@[simp] theorem zco : ∀ {l : List zd}, yE (l.map cD) = true
  | [] => by simp
  | c :: r => by simp [zco (l := r)]
@[simp] theorem zr9 {f : List zd} : plain (fD f) = true := by simp [fD]
@[simp] theorem zki {c : zd} {n : Nat} : zD (n + 1) (cD c) = true := by simp [cD, zD]
@[simp] theorem zsa {n : Nat} {l : List zd} : (l.map cD).all (zD (n + 1)) = true := by
  rw [List.all_map, List.all_eq_true]; intro x _; exact zki
@[simp] theorem zcp {a b : zd} : zE (cD a) (cD b) = decide (a = b) := by
  rw [Bool.eq_iff_iff]
  obtain ⟨a1, a2⟩ := a; obtain ⟨b1, b2⟩ := b
  simp [cD, zE, yP]
@[simp] theorem zkj : ∀ {a b : List zd}, yP (a.map cD) (b.map cD) = decide (a = b)
  | [], [] => by simp [yP]
  | [], _ :: _ => by simp [yP]
  | _ :: _, [] => by simp [yP]
  | x :: xs, y :: ys => by
    rw [Bool.eq_iff_iff]
    simp [yP, zkj (a := xs) (b := ys)]
@[simp] theorem zsb {c : zd} {l : List zd} : ((l.map cD).any fun y => zE y (cD c)) = decide (c ∈ l) := by
  rw [Bool.eq_iff_iff]
  simp [List.any_map, List.any_eq_true]
theorem kX (n : Nat) (i a b : Int) : zG U zp (n + 1) 0 [.int i, .int a, .int b] = some (.val (.bl (decide (a ≤ i) && decide (i ≤ b)))) := by
  rw [yq U0 rfl]
  simp [YG]
  by_cases h : a ≤ i <;> simp [h]
theorem zcq (n : Nat) (c : zd) : zG U zp (n + 1) 1 [cD c] = some (.val (.bl true)) := by
  rw [yq U1 rfl]
  simp [YH, cD]
noncomputable def Xf (c : zd) : Prop := 0 ≤ c.1 ∧ c.1 ≤ 7 ∧ 0 ≤ c.2 ∧ c.2 ≤ 7
theorem zkk (n : Nat) {c : zd} (h : Xf c) : zG U zp (n + 2) 2 [cD c] = some (.val (.bl true)) := by
  rw [yq U2 rfl]
  obtain ⟨h1, h2, h3, h4⟩ := h
  have h0 := zcq n c
  simp [YI, h0, kX]
  simp [cD, kX, h1, h2, h3, h4]
noncomputable def xr (a b : zd) : Prop := a.1 < b.1 ∨ (a.1 = b.1 ∧ a.2 < b.2)
noncomputable instance (a b : zd) : Decidable (xr a b) := by unfold xr; exact inferInstance
@[simp] theorem zsc {a b : zd} : ze .lt [cD a, cD b] = some (.val (.bl (decide (xr a b)))) := by
  simp only [cD, ze, ZV, ints?, Option.map_some, Option.bind_some, ym, lexLt]
  congr 3
  rw [Bool.eq_iff_iff]
  simp only [xr]
  by_cases h : a.1 = b.1
  · simp [h]
    by_cases h2 : a.2 = b.2
    · simp [h2]
    · simp [h2]
  · simp [h]
theorem zkl {a : zd} : ¬ xr a a := by unfold xr; omega
structure OkF (f : List zd) : Prop where
  ne : f ≠ []
  len : f.length ≤ 24
  cells : ∀ c ∈ f, Xf c
  rise : f.Pairwise xr
theorem OkF.nodup {f : List zd} (h : f.Pairwise xr) : f.Nodup := h.imp fun hab e => by subst e; exact zkl hab
theorem xE : (100000 : Nat) ≤ line := by decide
theorem zcr {α : Type} {f : α → Bool} : ∀ {l : List α}, bools? (l.map fun x => D.bl (f x)) = some (l.map f)
  | [] => rfl
  | x :: r => by simp [bools?, zcr (l := r)]
theorem zcs {α : Type} {f : α → Bool} {l : List α} : ze .all [.lst (l.map fun x => D.bl (f x))] = some (.val (.bl (l.all f))) := by
  simp [ze, Vc, zcr, List.all_map, Function.comp_def]
theorem zkm (n : Nat) {l : zd} (h : 0 ≤ l.1 ∧ l.1 ≤ l.2 ∧ 1 ≤ l.2 ∧ l.2 ≤ 4) : zG U zp (n + 2) 3 [cD l] = some (.val (.bl true)) := by
  rw [yq U3 rfl]
  obtain ⟨h1, h2, h3, h4⟩ := h
  have h0 := zcq n l
  simp [YJ, h0]
  simp [cD, kX, h1, h2, h3, h4]
theorem jt {i : Int} (h : 0 ≤ i) (h' : i ≤ 1000000) : wU i := by unfold wU; omega
theorem zct {a b : Int} (h : wU a ∧ wU b) : zZ true [.val (.int a), .val (.int b)] = some ((List.range (b - a).toNat).map fun (k : Nat) => D.int (a + (k : Int))) := by simp [zZ, h]
theorem kY {a : Int} (h : wU a) : zZ true [.val (.int a)] = some ((List.range a.toNat).map fun (k : Nat) => D.int (0 + (k : Int))) := by simp [zZ, h]
@[simp] theorem zsd {l : List D} : zZ false [.val (.tup l)] = some l := id rfl
@[simp] theorem zse {l : List D} : zZ false [.val (.lst l)] = some l := id rfl
@[simp] theorem zsf {o : Bool} {l : List D} : zZ false [.obj o (.lst l)] = some l := id rfl
theorem kZ {f : List zd} {k : Nat} (h : k < f.length) : ze .idx [fD f, .int (k : Int)] = some (.val (cD f[k])) := by
  rw [fD, zjZ, atI_nat (by simpa using h)]; simp
theorem zkn (n : Nat) {f : List zd} (hl : f.length ≤ 1000) (h : f.Pairwise xr) : zG U zp (n + 1) 4 [fD f] = some (.val (.bl true)) := by
  rw [yq U4 rfl]
  have hl' := xE
  have e3 : ((f.length : Int) - 1).toNat = f.length - 1 := by omega
  simp only [YK]
  simp
  rw [Zr (rs := [.val (.int 1), .val (.int f.length)]) (xs := List.range (f.length - 1)) (f := fun (k : Nat) => D.int (1 + (k : Int))) (fun _ => .bl true)]
  · simp [zcs]
  · simp [fD]
  · rw [zct ⟨jt (by omega) (by omega), jt (by omega) (by omega)⟩, e3]
  · simp; omega
  · intro k hk
    rw [List.mem_range] at hk
    have e1 : (1 + (k : Int) - 1) = (k : Int) := by omega
    have e2 : (1 + (k : Int)) = ((k + 1 : Nat) : Int) := by omega
    have hk1 : k < f.length := by omega
    have hk2 : k + 1 < f.length := by omega
    have := List.pairwise_iff_getElem.mp h k (k + 1) hk1 hk2 (by omega)
    simp [e1]
    rw [kZ hk1, e2, kZ hk2]
    simp [this]
@[simp] theorem zsg {f : List zd} : wj .tuple (fD f) = true := id rfl
@[simp] theorem zsh {c : zd} : wj .tuple (cD c) = true := id rfl
theorem xZ {f : List zd} : ze .len [fD f] = some (.val (.int f.length)) := by simp [fD]
theorem zko (n : Nat) {f : List zd} (h : OkF f) : zG U zp (n + 3) 5 [fD f] = some (.val (.bl true)) := by
  rw [yq U5 rfl]
  have hl' := xE
  have h1 := h.len
  have h2 : 1 ≤ f.length := by have := h.ne; cases f <;> simp_all
  have hr := zkn (n + 1) (by omega) h.rise
  simp -implicitDefEqProofs only [YL]
  simp -implicitDefEqProofs [xZ, show (1 : Int) ≤ f.length by omega, show (f.length : Int) ≤ 24 by omega, hr]
  rw [Zr (rs := [.val (fD f)]) (xs := f) (f := cD) (fun _ => .bl true)]
  · simp -implicitDefEqProofs [zcs, fD]
  · simp
  · rfl
  · omega
  · intro c hc
    simp -implicitDefEqProofs [zkk n (h.cells c hc)]
theorem zcu (n : Nat) {f : List zd} (h : OkF f) : zG U zp (n + 4) 6 [fD f] = some (.val (fD f)) := by
  rw [yq U6 rfl]
  simp [YM, zko n h]
structure OkL (l : zd) : Prop where
  a : 0 ≤ l.1
  b : l.1 ≤ l.2
  c : 1 ≤ l.2
  d : l.2 ≤ 4
theorem zcv (n : Nat) {l : zd} (h : OkL l) : zG U zp (n + 3) 7 [cD l] = some (.val (cD l)) := by
  rw [yq U7 rfl]
  simp [YN, zkm n ⟨h.a, h.b, h.c, h.d⟩]
noncomputable def xt (i : Int) : Int := if i < 0 then -i else i
noncomputable def zO (l a b : zd) : Bool := decide ((min (xt (a.1 - b.1)) (xt (a.2 - b.2)), max (xt (a.1 - b.1)) (xt (a.2 - b.2))) = l)
theorem VZ (a b : Int) : xt (a - b) = xt (b - a) := by unfold xt; split <;> split <;> omega
theorem Zv (l a b : zd) : zO l a b = zO l b a := by unfold zO; rw [VZ a.1, VZ a.2]
@[simp] theorem zsi {c : zd} : ze .idx [cD c, .int 0] = some (.val (.int c.1)) := id rfl
@[simp] theorem zsj {c : zd} : ze .idx [cD c, .int 1] = some (.val (.int c.2)) := id rfl
theorem zkp {a b : zd} : ze .eq [cD a, cD b] = some (.val (.bl (decide (a = b)))) := by rw [YF (by simp) (by simp), zcp]
noncomputable def qa (x y : Int) : zd := (min (xt x) (xt y), max (xt x) (xt y))
theorem zkq (n : Nat) (x y : Int) : zG U zp (n + 1) 9 [.int x, .int y] = some (.val (cD (qa x y))) := by
  rw [yq U9 rfl]
  have e : ∀ x y : Int, D.tup [.int (if y < x then y else x), .int (if y > x then y else x)] = cD (min x y, max x y) := by
    intro x y
    have e1 : (if y < x then y else x) = min x y := by split <;> omega
    have e2 : (if y > x then y else x) = max x y := by split <;> omega
    rw [e1, e2]; rfl
  simp [YO, -zch, -zci]
  simp only [zch, zci, Option.bind_some, xc, toD, Option.map_some, Function.comp_apply]
  simp
  rw [e]
  rfl
theorem zkr (l a b : zd) : decide (qa (b.1 - a.1) (b.2 - a.2) = l) = zO l a b := by
  unfold zO qa; rw [VZ a.1, VZ a.2]
theorem zks (n : Nat) (l a b : zd) : zG U zp (n + 2) 10 [cD l, cD a, cD b] = some (.val (.bl (zO l a b))) := by
  rw [yq zj1 rfl]
  simp [YQ, zkq, zkp, zkr]
end LK
namespace LK
open L2.LW
noncomputable def sm (a : Int) : Prop := -(2 ^ 64) < a ∧ a < 2 ^ 64
theorem qb {a : Int} (h : -1000000 ≤ a) (h' : a ≤ 1000000) : sm a := by unfold sm; omega
theorem qc {a b : Int} (h : sm b) : ze .mul [.int a, .int b] = some (.val (.int (a * b))) := zjX h
noncomputable def sD (ns : List Int) : D := .lst (ns.map D.int)
noncomputable def vg (ns : List Int) (k : Int) : Int := ns.getD k.toNat 0
theorem Zw (n : Nat) (ns : List Int) {k : Int} (h : 0 ≤ k) : zG U zp (n + 1) 13 [sD ns, .int k] = some (.val (.int (vg ns k))) := by
  rw [yq zj2 rfl]
  obtain ⟨j, rfl⟩ := Int.eq_ofNat_of_zero_le h
  simp only [YR]
  by_cases hj : j < ns.length
  · have hj' : (j : Int) < (ns.length : Int) := by omega
    simp [sD, hj']
    rw [kO, atI_nat (by simpa using hj)]
    simp [vg, hj]
  · have hj' : ¬ (j : Int) < (ns.length : Int) := by omega
    simp [sD, hj']
    simp [vg, List.getElem?_eq_none (by omega : ns.length ≤ j)]
theorem ju (n : Nat) (x : Int) {p m : Int} (h : 0 < p) (h' : 0 < m) : zG U zp (n + 1) 14 [.int x, .int p, .int m] = some (.val (.int (x * 48271 % p % m))) := by
  rw [yq zj3 rfl]
  simp [YS, qc (qb (a := 48271) (by decide) (by decide)), YD h, YD h']
structure Built (down right wide : Int) (r k : Int) (fs : List zd) : Prop where
  rise : fs.Pairwise xr
  at_ : ∀ x ∈ fs, down ≤ x.1 ∧ right ≤ x.2 ∧ x.2 < right + wide ∧ (x.1 < down + r ∨ (x.1 = down + r ∧ x.2 < right + k))
theorem Built.next {down right wide r k : Int} {fs : List zd} (b : Built down right wide r k fs) (hk : 0 ≤ k) (hw : k < wide) (hr : 0 ≤ r) : Built down right wide r (k + 1) (fs ++ [(down + r, right + k)]) := by
  refine ⟨?_, fun x hx => ?_⟩
  · rw [List.pairwise_append]
    refine ⟨b.rise, by simp, fun x hx y hy => ?_⟩
    simp only [List.mem_singleton] at hy
    subst hy
    have := b.at_ x hx
    unfold xr; simp only; omega
  · rw [List.mem_append, List.mem_singleton] at hx
    rcases hx with hx | rfl
    · have := b.at_ x hx; omega
    · show down ≤ down + r ∧ right ≤ right + k ∧ right + k < right + wide ∧ (down + r < down + r ∨ (down + r = down + r ∧ right + k < right + (k + 1)))
      omega
theorem Built.skip {down right wide r k : Int} {fs : List zd} (b : Built down right wide r k fs) : Built down right wide r (k + 1) fs :=
  ⟨b.rise, fun x hx => by have := b.at_ x hx; omega⟩
theorem Built.row {down right wide r : Int} {fs : List zd} (b : Built down right wide r wide fs) : Built down right wide (r + 1) 0 fs :=
  ⟨b.rise, fun x hx => by have := b.at_ x hx; omega⟩
theorem zkt (a b c : D) {w : Int} (h : w = 0 ∨ w = 1 ∨ w = 2) : ∃ d, (d = a ∨ d = b ∨ d = c) ∧ ze .idx [.lst [a, b, c], .int w] = some (.val d) := by
  rcases h with rfl | rfl | rfl
  · exact ⟨a, .inl rfl, rfl⟩
  · exact ⟨b, .inr (.inl rfl), rfl⟩
  · exact ⟨c, .inr (.inr rfl), rfl⟩
@[simp] theorem zsk {fs : List zd} {a b : Int} : fs.map cD ++ [.tup [.int a, .int b]] = (fs ++ [(a, b)]).map cD := by simp [cD]
theorem zku (n : Nat) (ns : List Int) {at_ most x rows wide down right way r k : Int} {j12 : Option SV} {fs : List zd} (h0 : 0 ≤ at_) (hr : 0 ≤ r ∧ r ≤ 1000) (hk : 0 ≤ k ∧ k ≤ 1000) (hw : 0 ≤ way ∧ way < 4) (hl : fs.length ≤ 1000) (hj : zU (some j12) = true) :
    ∃ v fs', zU (some v) = true ∧ zy (zR U zp (n + 1)) zp VV [some (.val (sD ns)), some (.val (.int at_)), some (.val (.int most)), some (.val (.int x)), some (.val (.int rows)), some (.val (.int wide)), some (.val (.int down)), some (.val (.int right)), some (.val (.int way)),
      some (.obj true (.lst (fs.map cD))), some (.val (.int r)), some (.val (.int k)), j12] =
      some (.nx, [some (.val (sD ns)), some (.val (.int at_)), some (.val (.int most)), some (.val (.int x)), some (.val (.int rows)), some (.val (.int wide)), some (.val (.int down)), some (.val (.int right)), some (.val (.int way)),
      some (.obj true (.lst (fs'.map cD))), some (.val (.int r)), some (.val (.int k)), v]) ∧ (fs' = fs ∨ fs' = fs ++ [(down + r, right + k)]) := by
  have m1 : sm r := qb (by omega) (by omega)
  have m2 : sm k := qb (by omega) (by omega)
  have h7 : (0 : Int) < 7 := by decide
  have hi : 0 ≤ at_ + 2 + (r + 2 * k) % 7 := by omega
  have hl' := xE
  have hl2 : fs.length < line := by omega
  simp only [VV]
  simp [qc m1, qc m2, YD h7, Zw n ns hi, hj]
  by_cases hz : way = 0
  · simp [hz, hl2]
    exact ⟨_, wv, fs ++ [(down + r, right + k)], by simp; rfl, .inr rfl⟩
  · obtain ⟨d, hd, e⟩ := zkt (.int 2) (.int 4) (.int 7) (w := way - 1) (by omega)
    simp [hz, e]
    have key : ∃ m, d = .int m ∧ 0 < m := by
      rcases hd with rfl | rfl | rfl
      · exact ⟨_, rfl, by decide⟩
      · exact ⟨_, rfl, by decide⟩
      · exact ⟨_, rfl, by decide⟩
    obtain ⟨m, rfl, hm⟩ := key
    simp [ju n _ (show (0 : Int) < 9931 by decide) hm]
    split
    · simp [hl2]
      exact ⟨_, wv, fs ++ [(down + r, right + k)], by simp; rfl, .inr rfl⟩
    · exact ⟨_, wv, fs, rfl, .inl rfl⟩
noncomputable def wc (ns : List Int) (at_ most x rows wide down right way : Int) (fs : List zd) (a b c : Option SV) : Env :=
  [some (.val (sD ns)), some (.val (.int at_)), some (.val (.int most)), some (.val (.int x)), some (.val (.int rows)), some (.val (.int wide)), some (.val (.int down)), some (.val (.int right)), some (.val (.int way)), some (.obj true (.lst (fs.map cD))), a, b, c]
theorem zkv (n : Nat) (ns : List Int) {at_ most x rows wide down right way : Int} {r : Nat} {fs : List zd} {b c : Option SV} (h0 : 0 ≤ at_) (hr : r ≤ 100) (hw : 0 ≤ wide ∧ wide ≤ 6) (hy : 0 ≤ way ∧ way < 4) (hl : fs.length ≤ 6 * r) (hb : Built down right wide r 0 fs) (fb : zU (some b) = true) (fc : zU (some c) = true) :
    ∃ a' b' c' fs', (zU (some a') = true ∧ zU (some b') = true ∧ zU (some c') = true) ∧ zy (zR U zp (n + 1)) zp YT (wc ns at_ most x rows wide down right way fs (some (.val (.int r))) b c) = some (.nx, wc ns at_ most x rows wide down right way fs' a' b' c') ∧ fs'.length ≤ 6 * (r + 1) ∧ Built down right wide (r + 1 : Nat) 0 fs' := by
  obtain ⟨ρ', h1, b', c', fs', fr, rfl, h2, h3⟩ := zck (i := 11) (a := 0) (m := wide.toNat) (body := zy (zR U zp (n + 1)) zp VV)
    (fun k ρ => ∃ b' c' fs', (zU (some b') = true ∧ zU (some c') = true) ∧ ρ = wc ns at_ most x rows wide down right way fs' (some (.val (.int r))) b' c' ∧ fs'.length ≤ 6 * r + k ∧ Built down right wide r (k : Int) fs') (ρ := wc ns at_ most x rows wide down right way fs (some (.val (.int r))) b c)
    ⟨b, c, fs, ⟨fb, fc⟩, rfl, by omega, hb⟩ fun k ρ hk zz3 => by
      obtain ⟨b', c', fs', fr, e, h2, h3⟩ := zz3
      subst e
      obtain ⟨v, fs2, fv, e1, e2⟩ := zku n ns (at_ := at_) (most := most) (x := x) (rows := rows) (wide := wide) (down := down) (right := right) (way := way) (r := r) (k := 0 + (k : Int)) (j12 := c') (fs := fs') h0 (by omega) (by omega) hy (by omega) fr.2
      refine ⟨_, _, e1, .inl rfl, _, v, fs2, ⟨wv, fv⟩, rfl, ?_⟩
      rw [Int.zero_add] at e2
      rcases e2 with rfl | rfl
      · exact ⟨by omega, h3.skip⟩
      · exact ⟨by simp; omega, h3.next (by omega) (by omega) (by omega)⟩
  refine ⟨some (.val (.int r)), b', c', fs', ⟨wv, fr.1, fr.2⟩, ?_, by omega, ?_⟩
  · simp only [YT, zce, YC, kK, kJ, zb7, zcb]
    rw [show (wc ns at_ most x rows wide down right way fs (some (.val (.int r))) b c)[11]? = some b from rfl, fb, show look (wc ns at_ most x rows wide down right way fs (some (.val (.int r))) b c) 5 = some (.val (.int wide)) from rfl]
    simp [kY (jt hw.1 (by omega : wide ≤ 1000000))]
    rw [show (List.map (fun (k : Nat) => D.int (k : Int)) (List.range wide.toNat)) = (List.range wide.toNat).map fun (k : Nat) => D.int (0 + (k : Int)) by simp, h1]
    simp
  · have e : (wide.toNat : Int) = wide := by omega
    rw [e] at h3
    have := h3.row
    simpa using this
theorem zkw (n : Nat) (ns : List Int) {at_ most x rows wide down right way : Int} {a b c : Option SV} (h0 : 0 ≤ at_) (hr : 0 ≤ rows ∧ rows ≤ 5) (hw : 0 ≤ wide ∧ wide ≤ 6) (hy : 0 ≤ way ∧ way < 4) (fa : zU (some a) = true) (fb : zU (some b) = true) (fc : zU (some c) = true) :
    ∃ a' b' c' fs', zB (zR U zp (n + 1)) zp (.for_ 10 true (.cons (.var 4) .nil) YT) (wc ns at_ most x rows wide down right way [] a b c) = some (.nx, wc ns at_ most x rows wide down right way fs' a' b' c') ∧ Built down right wide rows 0 fs' ∧ fs'.length ≤ 30 := by
  obtain ⟨ρ', h1, a', b', c', fs', fr, rfl, h2, h3⟩ := zck (i := 10) (a := 0) (m := rows.toNat) (body := zy (zR U zp (n + 1)) zp YT)
    (fun k ρ => ∃ a' b' c' fs', (zU (some a') = true ∧ zU (some b') = true ∧ zU (some c') = true) ∧ ρ = wc ns at_ most x rows wide down right way fs' a' b' c' ∧ fs'.length ≤ 6 * k ∧ Built down right wide (k : Int) 0 fs') (ρ := wc ns at_ most x rows wide down right way [] a b c)
    ⟨a, b, c, [], ⟨fa, fb, fc⟩, rfl, by simp, ⟨by simp, by simp⟩⟩ fun k ρ hk zz3 => by
      obtain ⟨a', b', c', fs', fr, e, h2, h3⟩ := zz3
      subst e
      obtain ⟨a2, b2, c2, fs2, fr2, e1, e2, e3⟩ := zkv n ns (at_ := at_) (most := most) (x := x) (rows := rows) (wide := wide) (down := down) (right := right) (way := way) (r := k) (fs := fs') (b := b') (c := c') h0 (by omega) hw hy h2 h3 fr.2.1 fr.2.2
      refine ⟨_, _, ?_, .inl rfl, a2, b2, c2, fs2, fr2, rfl, e2, e3⟩
      rw [Int.zero_add]
      exact e1
  refine ⟨a', b', c', fs', ?_, ?_, by omega⟩
  · simp only [YC, kK, kJ, zb7, zcb]
    rw [show (wc ns at_ most x rows wide down right way [] a b c)[10]? = some a from rfl, fa, show look (wc ns at_ most x rows wide down right way [] a b c) 4 = some (.val (.int rows)) from rfl]
    simp [kY (jt hr.1 (by omega : rows ≤ 1000000))]
    rw [show (List.map (fun (k : Nat) => D.int (k : Int)) (List.range rows.toNat)) = (List.range rows.toNat).map fun (k : Nat) => D.int (0 + (k : Int)) by simp, h1]
  · have e : (rows.toNat : Int) = rows := by omega
    rw [e] at h3
    exact h3
theorem zcw {fs : List zd} {k : Int} (h : 0 ≤ k) : ze .cutTo [.lst (fs.map cD), .int k] = some (.obj true (.lst ((fs.take k.toNat).map cD))) := by
  simp [ze, Vd, h]
noncomputable def zkx (f : List zd) : Prop := ∃ d : Int, ∀ c ∈ f, d ≤ c.1 ∧ c.1 < d + 5
theorem zky (n : Nat) (ns : List Int) {at_ most : Int} (h0 : 0 ≤ at_) (hm : 1 ≤ most) (hm2 : most ≤ 24) : ∃ f, OkF f ∧ (f.length : Int) ≤ most ∧ zkx f ∧ zG U zp (n + 2) 15 [sD ns, .int at_, .int most] = some (.val (fD f)) := by
  rw [yq zj4 rfl]
  simp only [YU]
  have p5 : (0 : Int) < 5 := by decide
  have p6 : (0 : Int) < 6 := by decide
  have p4 : (0 : Int) < 4 := by decide
  have q1 : (0 : Int) < 9973 := by decide
  have q2 : (0 : Int) < 9967 := by decide
  have q3 : (0 : Int) < 9949 := by decide
  have q4 : (0 : Int) < 9941 := by decide
  have q5 : (0 : Int) < 9907 := by decide
  have h1 : 0 ≤ at_ + 1 := by omega
  simp [Zw n ns h0, Zw n ns h1, ju n _ q1 p5, ju n _ q2 p6, ju n _ q5 p4]
  generalize hx : vg ns at_ = x
  generalize hrows : 1 + x * 48271 % 9973 % 5 = rows
  generalize hwide : 1 + x * 48271 % 9967 % 6 = wide
  have hr9 : 0 < 9 - rows := by omega
  have hw9 : 0 < 9 - wide := by omega
  simp [ju n _ q3 hr9, ju n _ q4 hw9, Zw n ns h1, ju n _ q5 p4]
  generalize hdown : vg ns (at_ + 1) * 48271 % 9949 % (9 - rows) = down
  generalize hright : vg ns (at_ + 1) * 48271 % 9941 % (9 - wide) = right
  generalize hway : (x + 3) * 48271 % 9907 % 4 = way
  have bw : 0 ≤ way ∧ way < 4 := by omega
  have bd : 0 ≤ down ∧ down < 9 - rows := by rw [← hdown]; exact ⟨Int.emod_nonneg _ (by omega), Int.emod_lt_of_pos _ hr9⟩
  have br : 0 ≤ right ∧ right < 9 - wide := by rw [← hright]; exact ⟨Int.emod_nonneg _ (by omega), Int.emod_lt_of_pos _ hw9⟩
  obtain ⟨a', b', c', fs, e1, hb, hl⟩ := zkw n ns (at_ := at_) (most := most) (x := x) (rows := rows) (wide := wide) (down := down) (right := right) (way := way) (a := none) (b := none) (c := none) h0 (by omega) (by omega) bw rfl rfl rfl
  have e1' := e1
  simp only [wc, List.map_nil] at e1'
  have hok : ∀ c ∈ fs, Xf c := fun c hc => by
    have := hb.at_ c hc
    unfold Xf; omega
  by_cases hf : fs = []
  · subst hf
    refine ⟨[(down, right)], ⟨by simp, by simp, fun c hc => ?_, by simp⟩, by simp; omega, ⟨down, fun c hc => ?_⟩, ?_⟩
    · simp at hc; subst hc; unfold Xf; simp only; omega
    · simp at hc; subst hc; simp only; omega
    · simp [e1']
      rw [show D.tup [.int down, .int right] = cD (down, right) from rfl, show ([cD (down, right)] : List D) = [(down, right)].map cD from rfl, zcw (by omega)]
      rw [List.take_of_length_le (by simp; omega)]
      simp [fD]
  · refine ⟨fs.take most.toNat, ⟨fun h => ?_, ?_, fun c hc => hok c (List.mem_of_mem_take hc), hb.rise.sublist (List.take_sublist _ _)⟩, ?_, ⟨down, fun c hc => ?_⟩, ?_⟩
    · rw [List.take_eq_nil_iff] at h
      rcases h with h | h
      · omega
      · exact hf h
    · rw [List.length_take]; omega
    · rw [List.length_take]; omega
    · have := hb.at_ c (List.mem_of_mem_take hc)
      omega
    · have hne : fs.map cD ≠ [] := by simpa using hf
      simp [e1', hne, hf]
      rw [zcw (by omega)]
      simp [fD]
theorem zcx (n : Nat) (ns : List Int) {at_ most : Int} (h0 : 0 ≤ at_) (hm : 1 ≤ most) (hm2 : most ≤ 24) : ∃ f, OkF f ∧ (f.length : Int) ≤ most ∧ zG U zp (n + 2) 15 [sD ns, .int at_, .int most] = some (.val (fD f)) := by
  obtain ⟨f, h1, h2, _, h3⟩ := zky n ns h0 hm hm2
  exact ⟨f, h1, h2, h3⟩
end LK
namespace LK
open L2.LW
noncomputable def Xg : List zd := [(1, 2), (0, 1), (1, 1), (1, 2), (0, 2), (1, 3), (2, 3), (0, 1), (1, 2), (2, 2), (0, 3), (1, 4), (2, 4), (3, 3), (3, 4), (0, 4), (4, 4), (1, 2), (1, 1)]
theorem zkz : ∀ l ∈ Xg, OkL l := by
  intro l hl
  simp only [Xg, List.mem_cons, List.not_mem_nil, or_false] at hl
  rcases hl with rfl | rfl | rfl | rfl | rfl | rfl | rfl | rfl | rfl | rfl | rfl | rfl | rfl | rfl | rfl | rfl | rfl | rfl | rfl <;> exact ⟨by decide, by decide, by decide, by decide⟩
theorem zkA (n : Nat) (x : Int) : ∃ l, OkL l ∧ zG U zp (n + 1) 16 [.int x] = some (.val (cD l)) := by
  rw [yq zj5 rfl]
  have h19 : (0 : Int) < 19 := by decide
  have hl := xE
  obtain ⟨k, hk⟩ := Int.eq_ofNat_of_zero_le (Int.emod_nonneg x (by decide : (19 : Int) ≠ 0))
  have hk2 : k < 19 := by have := Int.emod_lt_of_pos x h19; omega
  have hlen : Xg.length = 19 := rfl
  refine ⟨Xg[k]'(by omega), zkz _ (List.getElem_mem _), ?_⟩
  simp only [YV]
  simp [YD h19, hk]
  rw [zjW (by simp; omega)]
  simp
  rw [show ([D.tup [.int 1, .int 2], .tup [.int 0, .int 1], .tup [.int 1, .int 1], .tup [.int 1, .int 2], .tup [.int 0, .int 2], .tup [.int 1, .int 3], .tup [.int 2, .int 3], .tup [.int 0, .int 1], .tup [.int 1, .int 2], .tup [.int 2, .int 2], .tup [.int 0, .int 3], .tup [.int 1, .int 4], .tup [.int 2, .int 4],
    .tup [.int 3, .int 3], .tup [.int 3, .int 4], .tup [.int 0, .int 4], .tup [.int 4, .int 4], .tup [.int 1, .int 2], .tup [.int 1, .int 1]] : List D) = Xg.map cD from rfl]
  rw [kO, atI_nat (by simp; omega)]
  simp
theorem zkB (x y : Int) : vv [x, y] = [min x y, max x y] := by
  by_cases h : x ≤ y
  · simp [vv, List.mergeSort, List.MergeSort.Internal.splitInTwo, h, List.merge]
    omega
  · simp [vv, List.mergeSort, List.MergeSort.Internal.splitInTwo, h, List.merge]
    omega
theorem Xh (n : Nat) (l a b : zd) : zG U zp (n + 1) 17 [cD l, cD a, cD b] = some (.val (.bl (zO l a b))) := by
  rw [yq zj6 rfl]
  simp only [YW]
  simp
  have e : ze .sorted [.lst [.int (if a.1 - b.1 < 0 then -(a.1 - b.1) else a.1 - b.1), .int (if a.2 - b.2 < 0 then -(a.2 - b.2) else a.2 - b.2)]] = some (.obj true (.lst [.int (min (xt (a.1 - b.1)) (xt (a.2 - b.2))), .int (max (xt (a.1 - b.1)) (xt (a.2 - b.2)))])) := by
    simp [ze, Vb, ZW, ints?, zkB, xt]
  rw [e, show ze .toList [cD l] = some (.obj true (.lst [.int l.1, .int l.2])) from rfl]
  simp
  rw [YF (by simp [zD]) (by simp [zD])]
  simp [zE, yP]
  unfold zO
  rw [Bool.eq_iff_iff]
  obtain ⟨l1, l2⟩ := l
  simp
theorem qd {a b : List zd} : ze .ne [lD a, lD b] = some (.val (.bl (!decide (a = b)))) := by
  rw [lD, lD, kN (by simp [zD]) (by simp [zD])]
  simp [zE]
noncomputable def depth : Nat := 40
end LK
namespace LK
open L2.LW
noncomputable abbrev Ms := List (zd × zd)
noncomputable def dD (ms : Ms) : D := .dct true (ms.map fun p => cD p.1) (ms.map fun p => cD p.2)
noncomputable def get (ms : Ms) (c : zd) : Option zd := (ms.find? fun p => decide (p.1 = c)).map (·.2)
noncomputable def put (ms : Ms) (c v : zd) : Ms := if (get ms c).isSome then ms.map (fun p => if p.1 = c then (p.1, v) else p) else ms ++ [(c, v)]
@[simp] theorem qe {c : zd} : yF true (cD c) = true := by simp [cD, yF, ints?]
theorem zcy (c : zd) : ∀ l : List zd, yo (l.map cD) (cD c) = l.findIdx? fun x => decide (x = c)
  | [] => rfl
  | x :: r => by
    have ih := zcy c r
    unfold yo at ih ⊢
    rw [List.map_cons, List.findIdx?_cons, List.findIdx?_cons, zcp, ih]
theorem qf (c : zd) : ∀ l : List zd, (yo (l.map cD) (cD c)).isSome = decide (c ∈ l) := fun l => by
  rw [zcy]
  cases e : l.findIdx? fun x => decide (x = c) with
  | none =>
    rw [List.findIdx?_eq_none_iff] at e
    have : c ∉ l := fun h => by have := e c h; simp at this
    simp [this]
  | some i =>
    obtain ⟨h1, h2, _⟩ := List.findIdx?_eq_some_iff_getElem.mp e
    have : c ∈ l := by
      have h2 : l[i] = c := by simpa using h2
      rw [← h2]; exact List.getElem_mem h1
    simp [this]
theorem zkC (p : zd × zd) (r : Ms) (c : zd) : get (p :: r) c = if p.1 = c then some p.2 else get r c := by
  unfold get
  rw [List.find?_cons]
  by_cases h : p.1 = c <;> simp [h]
theorem Ja (c : zd) : ∀ ms : Ms, (get ms c).isSome = decide (c ∈ ms.map (·.1))
  | [] => rfl
  | p :: r => by
    rw [zkC, List.map_cons]
    by_cases h : p.1 = c
    · simp [h]
    · rw [if_neg h, Ja c r]
      have : ¬ c = p.1 := fun z => h z.symm
      simp [this]
theorem zcz (ms : Ms) : (ms.map fun p => cD p.1) = (ms.map (·.1)).map cD := by rw [List.map_map]; rfl
@[simp] theorem zsl {c : zd} {ms : Ms} : ze .inn [cD c, dD ms] = some (.val (.bl (get ms c).isSome)) := by
  simp only [dD, ze, Qh, qe, if_true, ym, zcz, qf, Ja]
@[simp] theorem zsm {c : zd} {ms : Ms} : ze .nin [cD c, dD ms] = some (.val (.bl (!(get ms c).isSome))) := by
  simp only [dD, ze, jS, qe, if_true, ym, zcz, qf, Ja]
@[simp] theorem zsn {ms : Ms} : yE (ms.map fun p => cD p.2) = true := by
  have : (ms.map fun p => cD p.2) = (ms.map (·.2)).map cD := by rw [List.map_map]; rfl
  rw [this]; exact zco
@[simp] theorem zso {ms : Ms} : jW (dD ms) = true := by simp [dD]
@[simp] theorem zsp {ms : Ms} : xQ (dD ms) = true := by simp [dD]
noncomputable def zkD (ms : Ms) : Prop := (ms.map (·.1)).Nodup
theorem jv {α : Type} [DecidableEq α] : ∀ {l m : List α}, l.Nodup → (∀ x ∈ l, x ∈ m) → l.length ≤ m.length
  | [], _, _, _ => Nat.zero_le _
  | x :: r, m, hn, hs => by
    rw [List.nodup_cons] at hn
    have hx := hs x List.mem_cons_self
    have ih := jv (l := r) (m := m.erase x) hn.2 fun y hy => by
      rw [List.mem_erase_of_ne (fun e => hn.1 (by rw [← e]; exact hy))]
      exact hs y (List.mem_cons_of_mem _ hy)
    rw [List.length_erase_of_mem hx] at ih
    have : 0 < m.length := List.length_pos_of_mem hx
    simp; omega
theorem zkE {l : zd} (h : OkL l) : l ∈ [((0 : Int), (1 : Int)), (1, 1), (0, 2), (1, 2), (2, 2), (0, 3), (1, 3), (2, 3), (3, 3), (0, 4), (1, 4), (2, 4), (3, 4), (4, 4)] := by
  obtain ⟨h1, h2, h3, h4⟩ := h
  have all : ∀ i j : Fin 5, i.1 ≤ j.1 → 1 ≤ j.1 → (((i.1 : Nat) : Int), ((j.1 : Nat) : Int)) ∈ [((0 : Int), (1 : Int)), (1, 1), (0, 2), (1, 2), (2, 2), (0, 3), (1, 3), (2, 3), (3, 3), (0, 4), (1, 4), (2, 4), (3, 4), (4, 4)] := by decide +kernel
  have := all ⟨l.1.toNat, by omega⟩ ⟨l.2.toNat, by omega⟩ (by simp only; omega) (by simp only; omega)
  simp only at this
  rw [Int.toNat_of_nonneg h1, Int.toNat_of_nonneg (by omega)] at this
  exact this
theorem OkL.cases {P : zd → Prop} {l : zd} (h : OkL l) (p : ∀ x ∈ [((0 : Int), (1 : Int)), (1, 1), (0, 2), (1, 2), (2, 2), (0, 3), (1, 3), (2, 3), (3, 3), (0, 4), (1, 4), (2, 4), (3, 4), (4, 4)], P x) : P l := p l (zkE h)
theorem zsq {g m x y : Int} (hg : 1 ≤ g) (h : x - y = g * m ∨ x - y = -(g * m)) : (x / g = y / g + m ∨ x / g = y / g - m) ∧ x % g = y % g := by
  rcases h with h | h
  · rw [show x = y + g * m by omega, Int.add_mul_ediv_left _ _ (by omega), Int.add_mul_emod_self_left]
    exact ⟨.inl rfl, rfl⟩
  · rw [show x = y + g * (-m) by rw [Int.mul_neg]; omega, Int.add_mul_ediv_left _ _ (by omega), Int.add_mul_emod_self_left]
    exact ⟨.inr (by omega), rfl⟩
end LK
namespace LK
open L2.LW
noncomputable def zcA (k : Option (List D)) : Option (Option SV) → Option (List D)
  | some (some (.io d)) => k.map (d :: ·)
  | _ => none
@[simp] theorem zsr {k : Option (List D)} {d : D} : zcA k (some (some (.io d))) = k.map (d :: ·) := id rfl
@[simp] theorem zss {ρ : Env} : xT ρ [] = some [] := by rw [xT]
@[simp] theorem zst {ρ : Env} {i : Nat} {r : List Nat} : xT ρ (i :: r) = zcA (xT ρ r) ρ[i]? := by
  rw [xT]
  rcases ρ[i]? with _ | _ | (_ | _ | _) <;> rfl
@[simp] theorem zsu {io : List Nat} {r : SV} {ρ : Env} : jl io (some (.rt r, ρ)) = (xT ρ io).map (Ans.ok r) := id rfl
@[simp] theorem zsv {io : List Nat} {ρ : Env} : jl io (some (.nx, ρ)) = (xT ρ io).map (Ans.ok (.val .non)) := id rfl
noncomputable def tD (tr : List zd) : D := .dct true (tr.map cD) (tr.map fun _ => .bl true)
@[simp] theorem zsw {tr : List zd} : yE (tr.map fun _ => (.bl true : D)) = true := by
  induction tr with
  | nil => simp
  | cons x r ih => simpa using ih
@[simp] theorem zsx {tr : List zd} : jW (tD tr) = true := by simp [tD]
@[simp] theorem zsy {tr : List zd} : xQ (tD tr) = true := by simp [tD]
@[simp] theorem zsz {c : zd} {tr : List zd} : ze .nin [cD c, tD tr] = some (.val (.bl (!decide (c ∈ tr)))) := by
  simp only [tD, ze, jS, qe, if_true, ym, qf]
section
variable (f : List zd) (l : zd)
noncomputable def nb (c : zd) : List zd := f.filter (zO l c)
structure Half (ms : Ms) : Prop where
  nd : zkD ms
  inF : ∀ x y, get ms x = some y → x ∈ f ∧ y ∈ f ∧ zO l x y = true
end
section
variable {f : List zd} {l : zd}
theorem Half.len {ms : Ms} (h : Half f l ms) : ms.length ≤ f.length := by
  have := jv (l := ms.map fun (p : zd × zd) => p.1) (m := f) h.nd fun x hx => by
    have : (get ms x).isSome = true := by rw [Ja]; simpa using hx
    obtain ⟨y, hy⟩ := Option.isSome_iff_exists.mp this
    exact (h.inF x y hy).1
  simpa using this
@[simp] theorem zsA {c : zd} : wD (.val (cD c)) = some (.e (cD c)) := by simp [cD]
@[simp] theorem zsB {g : List zd} : wD (.val (fD g)) = some (.e (fD g)) := by simp [fD]
structure TrOk (f tr : List zd) : Prop where
  nd : tr.Nodup
  sub : ∀ x ∈ tr, x ∈ f
theorem TrOk.len {tr : List zd} (h : TrOk f tr) : tr.length ≤ f.length := jv h.nd h.sub
theorem TrOk.snoc {tr : List zd} {o : zd} (h : TrOk f tr) (ho : o ∈ f) (ht : o ∉ tr) : TrOk f (tr ++ [o]) := by
  refine ⟨?_, fun x hx => ?_⟩
  · rw [List.nodup_append]
    refine ⟨h.nd, by simp, fun a ha b hb e => ?_⟩
    simp at hb; subst hb; subst e; exact ht ha
  · rw [List.mem_append, List.mem_singleton] at hx
    rcases hx with z | rfl
    · exact h.sub x z
    · exact ho
end
end LK
namespace LK
open L2.LW
section
variable {α : Type}
noncomputable def vS (ms : List (zd × α)) (c : zd) : Option α := (ms.find? fun p => decide (p.1 = c)).map (·.2)
theorem zkF (p : zd × α) (r : List (zd × α)) (c : zd) : vS (p :: r) c = if p.1 = c then some p.2 else vS r c := by
  unfold vS
  rw [List.find?_cons]
  by_cases h : p.1 = c <;> simp [h]
theorem zcB (c : zd) : ∀ ms : List (zd × α), (vS ms c).isSome = decide (c ∈ ms.map (·.1))
  | [] => rfl
  | p :: r => by
    rw [zkF, List.map_cons]
    by_cases h : p.1 = c
    · simp [h]
    · rw [if_neg h, zcB c r]
      have : ¬ c = p.1 := fun z => h z.symm
      simp [this]
end
section
variable (f : List zd) (l : zd)
noncomputable def Bk (goal : zd) : Nat → zd → Prop
  | 0, c => c = goal
  | k + 1, c => Bk goal k c ∨ (c ∈ f ∧ ∃ p, Bk goal k p ∧ zO l c p = true)
noncomputable def Lv (goal : zd) (k : Nat) (c : zd) : Prop := Bk f l goal k c ∧ ∀ i, i < k → ¬ Bk f l goal i c
noncomputable abbrev zcC := List (zd × Option zd)
structure LOk (goal : zd) (ms : zcC) : Prop where
  nd : (ms.map (·.1)).Nodup
  sub : ∀ c, (vS ms c).isSome = true → c ∈ f
  root : ∀ c, vS ms c = some none → c = goal
  next : ∀ c p, vS ms c = some (some p) → zO l c p = true ∧ ∃ j, Lv f l goal (j + 1) c ∧ Lv f l goal j p ∧ (vS ms p).isSome = true
end
section
variable {f : List zd} {l : zd} {goal : zd}
theorem Bk.inF (hg : goal ∈ f) : ∀ {k : Nat} {c : zd}, Bk f l goal k c → c ∈ f
  | 0, c, h => by rw [show c = goal from h]; exact hg
  | k + 1, c, h => by
    rcases h with h | h
    · exact Bk.inF hg h
    · exact h.1
theorem LOk.len {ms : zcC} (h : LOk f l goal ms) : ms.length ≤ f.length := by
  have := jv (l := ms.map fun (p : zd × Option zd) => p.1) (m := f) h.nd fun x hx => h.sub x (by rw [zcB]; simpa using hx)
  simpa using this
end
end LK
namespace LK
open L2.LW
theorem zcD {α : Type} {R : α → α → Prop} (ir : ∀ a, ¬ R a a) (as : ∀ a b, R a b → R b a → False) : ∀ {l m : List α}, l.Pairwise R → m.Pairwise R → (∀ x, x ∈ l ↔ x ∈ m) → l = m
  | [], [], _, _, _ => rfl
  | [], y :: m, _, _, h => absurd ((h y).mpr List.mem_cons_self) (by simp)
  | x :: l, [], _, _, h => absurd ((h x).mp List.mem_cons_self) (by simp)
  | x :: l, y :: m, hl, hm, h => by
    rw [List.pairwise_cons] at hl hm
    have exy : x = y := by
      rcases List.mem_cons.mp ((h x).mp List.mem_cons_self) with e | e
      · exact e
      · rcases List.mem_cons.mp ((h y).mpr List.mem_cons_self) with e' | e'
        · exact e'.symm
        · exact (as _ _ (hm.1 x e) (hl.1 y e')).elim
    subst exy
    rw [zcD ir as hl.2 hm.2 fun z => ?_]
    constructor
    · intro hz
      rcases List.mem_cons.mp ((h z).mp (List.mem_cons_of_mem _ hz)) with e | e
      · subst e; exact (ir _ (hl.1 z hz)).elim
      · exact e
    · intro hz
      rcases List.mem_cons.mp ((h z).mpr (List.mem_cons_of_mem _ hz)) with e | e
      · subst e; exact (ir _ (hm.1 z hz)).elim
      · exact e
noncomputable def cl (c : zd) : List Int := [c.1, c.2]
theorem zcE {a b : zd} (h : cl a = cl b) : a = b := by
  simp [cl] at h; exact Prod.ext h.1 h.2
theorem zkG {a b : zd} (h : xr a b) : wH (cl a) (cl b) := by
  show L2.LW.lexLt [a.1, a.2] [b.1, b.2] = true
  simp only [L2.LW.lexLt]
  unfold xr at h
  by_cases e : a.1 = b.1
  · have : ¬ a.2 = b.2 := by omega
    have h2 : a.2 < b.2 := by omega
    simp [e, this, h2]
  · have h2 : a.1 < b.1 := by omega
    simp [e, h2]
theorem zcF : ∀ L : List zd, tups? (L.map cD) = some (L.map cl)
  | [] => rfl
  | c :: r => by simp [tups?, cD, ints?, zcF r, cl]
theorem zkH {L g : List zd} (hL : L.Nodup) (hg : g.Pairwise xr) (h : ∀ x, x ∈ L ↔ x ∈ g) : wS (L.map cl) = g.map cl := by
  have nd : (L.map cl).Nodup := by
    rw [List.Nodup, List.pairwise_map]; exact hL.imp fun ne e => ne (zcE e)
  have up := kb nd
  have up2 : (g.map cl).Pairwise wH := by rw [List.pairwise_map]; exact hg.imp zkG
  refine zcD (R := wH) (fun a z => by have := jq a; rw [show L2.LW.lexLt a a = true from z] at this; cases this) (fun a b z1 z2 => by have := Zl z1 z2; rw [jq] at this; cases this) up up2 fun x => ?_
  rw [(VE _).mem_iff, List.mem_map, List.mem_map]
  exact ⟨fun ⟨c, hc, e⟩ => ⟨c, (h c).mp hc, e⟩, fun ⟨c, hc, e⟩ => ⟨c, (h c).mpr hc, e⟩⟩
theorem zkI {L g : List zd} (hL : L.Nodup) (hl : L.length < 64) (hg : g.Pairwise xr) (h : ∀ x, x ∈ L ↔ x ∈ g) : Qm (L.map cD) = some (.obj true (lD g)) := by
  unfold Qm
  have nd : (L.map cl).Nodup := by
    rw [List.Nodup, List.pairwise_map]; exact hL.imp fun ne e => ne (zcE e)
  rw [zcF, Option.bind_some, if_pos ⟨by simpa using hl, nd, by simp [cl]⟩, zkH hL hg h, List.map_map]
  rfl
theorem zkJ {L g : List zd} (h0 : L ≠ []) (hL : L.Nodup) (hl : L.length < 64) (hg : g.Pairwise xr) (h : ∀ x, x ∈ L ↔ x ∈ g) : ZW (L.map cD) = some (.obj true (lD g)) := by
  unfold ZW
  have : ints? (L.map cD) = none := by
    cases L with
    | nil => exact absurd rfl h0
    | cons c r => rfl
  rw [this]
  exact zkI hL hl hg h
noncomputable def zkK (f : List zd) (l c : zd) : List zd := f.filter fun x => @decide (∃ k, Bk f l c k x) (Classical.propDecidable _)
noncomputable def qg (f : List zd) (l : zd) : List zd → List (List zd) → List (List zd)
  | [], acc => acc
  | c :: r, acc => if c ∈ acc.flatten then qg f l r acc else qg f l r (acc ++ [zkK f l c])
noncomputable def zsC (f : List zd) (l : zd) : List (List zd) := qg f l f []
end LK
namespace LK
open L2.LW
noncomputable abbrev Mi := List (Nat × Nat)
noncomputable def nD (n : Nat) : D := .int (n : Int)
noncomputable def dI (ms : Mi) : D := .dct false (ms.map fun p => nD p.1) (ms.map fun p => nD p.2)
noncomputable def zX (ms : Mi) (k : Nat) : Option Nat := (ms.find? fun p => decide (p.1 = k)).map (·.2)
noncomputable def vh (ms : Mi) (k v : Nat) : Mi := if (zX ms k).isSome then ms.map (fun p => if p.1 = k then (p.1, v) else p) else ms ++ [(k, v)]
theorem Jb {a b : Nat} : zE (nD a) (nD b) = decide (a = b) := by
  simp only [nD, zE]
  rw [Bool.eq_iff_iff]
  simp
  omega
theorem wd (p : Nat × Nat) (r : Mi) (k : Nat) : zX (p :: r) k = if p.1 = k then some p.2 else zX r k := by
  unfold zX
  rw [List.find?_cons]
  by_cases h : p.1 = k <;> simp [h]
theorem zcG (k : Nat) : ∀ ms : Mi, (zX ms k).isSome = decide (k ∈ ms.map (·.1))
  | [] => rfl
  | p :: r => by
    rw [wd, List.map_cons]
    by_cases h : p.1 = k
    · simp [h]
    · rw [if_neg h, zcG k r]
      have : ¬ k = p.1 := fun z => h z.symm
      simp [this]
theorem qh (k : Nat) : ∀ ms : Mi, dget (ms.map fun p => nD p.1) (ms.map fun p => nD p.2) (nD k) = (zX ms k).map nD
  | [] => rfl
  | p :: r => by
    have ih := qh k r
    unfold dget yo at ih ⊢
    rw [List.map_cons, List.map_cons, List.findIdx?_cons, Jb, wd]
    by_cases h : p.1 = k
    · simp [h]
    · rw [if_neg h, ← ih]
      simp only [h, decide_false, Bool.false_eq_true, if_false]
      cases (List.findIdx? (fun x => zE x (nD k)) (r.map fun p => nD p.1)) <;> simp
theorem zcH (k : Nat) : ∀ ms : Mi, (yo (ms.map fun p => nD p.1) (nD k)).isSome = (zX ms k).isSome
  | [] => rfl
  | p :: r => by
    have ih := zcH k r
    unfold yo at ih ⊢
    rw [List.map_cons, List.findIdx?_cons, Jb, wd]
    by_cases h : p.1 = k
    · simp [h]
    · rw [if_neg h, ← ih]
      simp only [h, decide_false, Bool.false_eq_true, if_false]
      cases (List.findIdx? (fun x => zE x (nD k)) (r.map fun p => nD p.1)) <;> simp
theorem zcI {k v : Nat} {ms : Mi} (h : zX ms k = some v) : ze .idx [dI ms, nD k] = some (.val (nD v)) := by
  show ji [dI ms, nD k] = _
  unfold dI ji
  dsimp only
  rw [if_pos (show yF false (nD k) = true from rfl), qh, h]
  rfl
theorem zcJ {k : Nat} {ms : Mi} : ze .dget [dI ms, nD k, .int 0] = some (.val (nD ((zX ms k).getD 0))) := by
  show Ya [dI ms, nD k, .int 0] = _
  have e : Ya [dI ms, nD k, .int 0] = match dget (ms.map fun p => nD p.1) (ms.map fun p => nD p.2) (nD k) with
      | some (.int v) => zI v
      | none => zI 0
      | _ => none := rfl
  rw [e, qh]
  cases zX ms k with
  | none => rfl
  | some v => rfl
theorem zkL {ms : Mi} {k v : Nat} : wk false (ms.map fun p => nD p.1) (ms.map fun p => nD p.2) (nD k) (nD v) = dI (vh ms k v) := by
  unfold wk vh
  rw [zcH]
  split
  · unfold dI
    congr 1
    · rw [List.map_map]
      apply List.map_congr_left
      intro p _
      dsimp only [Function.comp]
      split <;> rfl
    · rename_i hh
      clear hh
      induction ms with
      | nil => rfl
      | cons p r ih =>
        simp only [List.map_cons, List.zipWith_cons_cons, ih, Jb]
        congr 1
        by_cases h : p.1 = k <;> simp [h]
  · rw [dI, List.map_append, List.map_append]
    rfl
theorem Jc {ms : Mi} {k v x : Nat} : zX (vh ms k v) x = if x = k then some v else zX ms x := by
  unfold vh
  by_cases h : (zX ms k).isSome = true
  · rw [if_pos h]
    induction ms with
    | nil => cases h
    | cons p r ih =>
      rw [List.map_cons, wd, wd]
      rw [wd] at h
      by_cases e : p.1 = k
      · rw [if_pos e]
        dsimp only
        by_cases ex : x = k
        · rw [if_pos (by rw [e, ex]), if_pos ex]
        · rw [if_neg (by rw [e]; exact fun z => ex z.symm), if_neg ex, if_neg (by rw [e]; exact fun z => ex z.symm)]
          clear ih h
          induction r with
          | nil => rfl
          | cons q r ih =>
            rw [List.map_cons, wd, wd, ih]
            by_cases e2 : q.1 = k
            · rw [if_pos e2, if_neg (by dsimp only; rw [e2]; exact fun z => ex z.symm), if_neg (by rw [e2]; exact fun z => ex z.symm)]
            · rw [if_neg e2]
      · rw [if_neg e] at h
        rw [if_neg e, ih h]
        by_cases ex : x = k
        · rw [if_pos ex, if_pos ex, if_neg (by rw [ex]; exact e)]
        · rw [if_neg ex, if_neg ex]
  · rw [if_neg h]
    have hn : zX ms k = none := by simpa using h
    induction ms with
    | nil =>
      show zX [(k, v)] x = _
      rw [wd]
      by_cases e : x = k
      · rw [if_pos e, if_pos e.symm]
      · rw [if_neg e, if_neg fun z => e z.symm]
    | cons p r ih =>
      rw [wd] at hn
      by_cases hp : p.1 = k
      · rw [if_pos hp] at hn; cases hn
      · rw [if_neg hp] at hn
        rw [List.cons_append, wd, wd, ih (by rw [hn]; simp) hn]
        by_cases e : p.1 = x
        · rw [if_pos e, if_pos e, if_neg (fun z => hp (e.trans z))]
        · rw [if_neg e, if_neg e]
theorem zcK {ms : Mi} {k v : Nat} (h : (ms.map (·.1)).Nodup) : ((vh ms k v).map (·.1)).Nodup := by
  unfold vh
  by_cases e : (zX ms k).isSome = true
  · rw [if_pos e, List.map_map]
    have : (fun p : Nat × Nat => p.1) ∘ (fun p : Nat × Nat => if p.1 = k then (p.1, v) else p) = fun p => p.1 := by
      funext p
      dsimp only [Function.comp]
      split <;> rfl
    rw [this]; exact h
  · rw [if_neg e, List.map_append, List.nodup_append]
    refine ⟨h, by simp, fun a ha b hb eab => ?_⟩
    simp at hb
    subst hb; subst eab
    rw [zcG] at e
    exact e (by simpa using ha)
theorem qi {ms : Mi} (h : (ms.map (·.1)).Nodup) {k v : Nat} : (k, v) ∈ ms ↔ zX ms k = some v := by
  induction ms with
  | nil => constructor <;> (intro z; cases z)
  | cons p r ih =>
    rw [List.map_cons, List.nodup_cons] at h
    rw [wd, List.mem_cons]
    by_cases e : p.1 = k
    · rw [if_pos e]
      constructor
      · rintro (z | z)
        · rw [← z]
        · exact absurd (List.mem_map.mpr ⟨_, z, rfl⟩) (by rw [← e] ; exact h.1)
      · intro z
        cases z
        exact .inl (by rw [← e])
    · rw [if_neg e, ← ih h.2]
      constructor
      · rintro (z | z)
        · rw [← z] at e; exact absurd rfl e
        · exact z
      · exact .inr
theorem zcL {ρ : Env} {i : Nat} {ms : Mi} {k v : Nat} (hl : ms.length < line) :
    YB ρ i (some (.val (nD k))) (some (.val (nD v))) (some (some (.obj true (dI ms)))) = some (.nx, ρ.set i (some (.obj true (dI (vh ms k v))))) := by
  rw [dI, zjP]
  simp only [Option.bind_some, zcf, List.length_map, hl, decide_true, Bool.and_self, zkL]
  rfl
theorem jw {n : Nat} (h : n < 64) : ze .shl [.int 1, nD n] = some (.val (nD (2 ^ n))) := by
  show jT [.int 1, nD n] = _
  unfold jT nD
  dsimp only
  rw [if_pos (by omega)]
  simp [zI]
theorem Xi {a b : Nat} : ze .band [nD a, nD b] = some (.val (nD (a &&& b))) := by
  show jU [nD a, nD b] = _
  unfold jU nD
  dsimp only
  rw [if_pos (by omega)]
  rfl
theorem zcM {a b : Nat} : ze .bor [nD a, nD b] = some (.val (nD (a ||| b))) := by
  show jV [nD a, nD b] = _
  unfold jV nD
  dsimp only
  rw [if_pos (by omega)]
  rfl
theorem zkM {a b : Nat} : ze .bxor [nD a, nD b] = some (.val (nD (a ^^^ b))) := by
  show ZY [nD a, nD b] = _
  unfold ZY nD
  dsimp only
  rw [if_pos (by omega)]
  rfl
theorem zkN {a : Nat} : ze .blen [nD a] = some (.val (nD (wC a))) := by
  show ZZ [nD a] = _
  unfold ZZ nD
  dsimp only
  rw [if_pos (by omega)]
  rfl
theorem qj {a : Nat} : ze .ne [nD a, .int 0] = some (.val (.bl (decide (a ≠ 0)))) := by
  rw [kN rfl rfl]
  unfold nD
  rw [zE]
  congr 3
  rw [Bool.eq_iff_iff]
  simp
theorem zcN {a : Nat} : ze .eq [nD a, .int 0] = some (.val (.bl (decide (a = 0)))) := by
  rw [YF rfl rfl]
  unfold nD
  rw [zE]
  congr 3
  rw [Bool.eq_iff_iff]
  simp
theorem Jd {N : Nat} (h : N ≤ 1000) : zZ true [.val (nD N)] = some ((List.range N).map nD) := by
  rw [nD, kY (jt (by omega) (by omega))]
  simp only [Int.toNat_natCast, Int.zero_add]
  rfl
theorem Xj {a b : Nat} : (a &&& b) ≠ 0 ↔ ∃ p, a.testBit p = true ∧ b.testBit p = true := by
  constructor
  · intro h
    obtain ⟨p, hp⟩ := Nat.exists_testBit_of_ne_zero h
    rw [Nat.testBit_and, Bool.and_eq_true] at hp
    exact ⟨p, hp⟩
  · rintro ⟨p, h1, h2⟩ z
    have : (a &&& b).testBit p = true := by rw [Nat.testBit_and, h1, h2]; rfl
    rw [z] at this; simp at this
theorem Je {a p : Nat} : (a &&& 2 ^ p) = 0 ↔ a.testBit p = false := by
  constructor
  · intro h
    have : (a &&& 2 ^ p).testBit p = false := by rw [h]; simp
    rw [Nat.testBit_and, Nat.testBit_two_pow_self, Bool.and_true] at this
    exact this
  · intro h
    apply Nat.eq_of_testBit_eq
    intro i
    rw [Nat.testBit_and, Nat.zero_testBit]
    by_cases e : p = i
    · subst e; rw [h]; rfl
    · rw [Nat.testBit_two_pow_of_ne e, Bool.and_false]
noncomputable def zf : List Nat → Nat
  | [] => 0
  | p :: r => zf r ||| 2 ^ p
theorem yV {i : Nat} : ∀ {L : List Nat}, (zf L).testBit i = true ↔ i ∈ L
  | [] => by simp [zf]
  | p :: r => by
    rw [zf, Nat.testBit_or, Bool.or_eq_true, yV, List.mem_cons]
    constructor
    · rintro (z | z)
      · exact .inr z
      · by_cases e : p = i
        · exact .inl e.symm
        · rw [Nat.testBit_two_pow_of_ne e] at z; cases z
    · rintro (z | z)
      · subst z; exact .inr Nat.testBit_two_pow_self
      · exact .inl z
theorem qk {N : Nat} : ∀ {L : List Nat}, (∀ p ∈ L, p < N) → zf L < 2 ^ N
  | [], _ => Nat.two_pow_pos N
  | p :: r, h => Nat.or_lt_two_pow (qk fun q hq => h q (List.mem_cons_of_mem _ hq)) (Nat.pow_lt_pow_right (by decide) (h p List.mem_cons_self))
theorem zkO {p : Nat} {L : List Nat} (h : p ∉ L) : zf (p :: L) ^^^ 2 ^ p = zf L := by
  apply Nat.eq_of_testBit_eq
  intro i
  rw [zf, Nat.testBit_xor, Nat.testBit_or]
  by_cases e : p = i
  · subst e
    have : (zf L).testBit p = false := by
      rw [Bool.eq_false_iff]; exact fun z => h (yV.mp z)
    rw [Nat.testBit_two_pow_self, this]; rfl
  · rw [Nat.testBit_two_pow_of_ne e]; simp
theorem vC {N i : Nat} : (2 ^ N - 1).testBit i = decide (i < N) := Nat.testBit_two_pow_sub_one N i
theorem zkP {a : Nat} (h : a ≠ 0) : a.testBit (wC a - 1) = true := by
  unfold wC
  rw [if_neg h, Nat.add_sub_cancel]
  exact Nat.testBit_log2 h
end LK
namespace LK
open L2.LW
section
variable {N : Nat} {nm : Nat → Nat} {st : Nat}
inductive Pth (N : Nat) (nm : Nat → Nat) (st : Nat) : List Nat → Prop where
  | one {p : Nat} (h : p < N) (s : st.testBit p = true) : Pth N nm st [p]
  | more {q p : Nat} {L : List Nat} (h : Pth N nm st (p :: L)) (lt : q < N) (new : q ∉ p :: L) (nr : (nm q).testBit p = true) : Pth N nm st (q :: p :: L)
theorem Pth.lt {L : List Nat} (h : Pth N nm st L) : ∀ p ∈ L, p < N := by
  induction h with
  | one h s => intro p hp; rw [List.mem_singleton] at hp; rw [hp]; exact h
  | more h lt new nr ih =>
    intro p hp
    rcases List.mem_cons.mp hp with rfl | hp
    · exact lt
    · exact ih p hp
theorem Pth.nd {L : List Nat} (h : Pth N nm st L) : L.Nodup := by
  induction h with
  | one h s => simp
  | more h lt new nr ih => exact List.nodup_cons.mpr ⟨new, ih⟩
structure Lay (N : Nat) (nm : Nat → Nat) (st : Nat) (j : Nat) (ms : Mi) : Prop where
  nd : (ms.map (·.1)).Nodup
  lt : ∀ v e, zX ms v = some e → v < 2 ^ N ∧ e < 2 ^ N
  is : ∀ v p, (∃ e, zX ms v = some e ∧ e.testBit p = true) ↔ ∃ L, Pth N nm st (p :: L) ∧ L.length = j ∧ zf (p :: L) = v
theorem zcO {ms : Mi} (nd : (ms.map (·.1)).Nodup) (lt : ∀ v e, zX ms v = some e → v < 2 ^ N) (hN : N ≤ 16) : ms.length ≤ 65536 := by
  have := jv (l := ms.map (·.1)) (m := List.range (2 ^ N)) nd fun x hx => by
    obtain ⟨p, hp, rfl⟩ := List.mem_map.mp hx
    exact List.mem_range.mpr (lt p.1 p.2 ((qi nd).mp hp))
  rw [List.length_map, List.length_range] at this
  exact Nat.le_trans this (Nat.pow_le_pow_right (by decide) hN)
noncomputable def vT (N st : Nat) (ms : Mi) (s3 : Option SV) : Env := [some (.val (nD N)), some (.val (nD st)), some (.obj true (dI ms)), s3]
theorem zkQ (n : Nat) (hN : N ≤ 16) : ∃ ms, Lay N nm st 0 ms ∧ zG U zp (n + 1) 63 [nD N, nD st] = some (.obj true (dI ms)) := by
  have hl' := xE
  obtain ⟨ρ', e, ms, s3, rfl, q1, q2, q3⟩ := kQ (i := 3) (body := zy (zR U zp n) zp VW)
    (fun k ρ => ∃ ms s3, ρ = vT N st ms s3 ∧ (ms.map (·.1)).Nodup ∧ (∀ v e, zX ms v = some e → v < 2 ^ N ∧ e < 2 ^ N) ∧ ∀ v p, (∃ e, zX ms v = some e ∧ e.testBit p = true) ↔ p < k ∧ st.testBit p = true ∧ v = 2 ^ p)
    (f := nD) (xs := List.range N) (ρ := vT N st [] none) ⟨[], none, rfl, by simp, fun v e h => (by cases h), fun v p => by
      constructor
      · rintro ⟨e, h, _⟩; cases h
      · rintro ⟨h, _⟩; omega⟩
    fun k ρ hk zz => by
      obtain ⟨ms, s3, eρ, q1, q2, q3⟩ := zz
      subst eρ
      rw [List.length_range] at hk
      rw [List.getElem_range]
      have sh := jw (n := k) (by omega)
      have bd := Xi (a := st) (b := 2 ^ k)
      have kl := zcO q1 (fun v e h => (q2 v e h).1) hN
      have pl : (2 : Nat) ^ k < 2 ^ N := Nat.pow_lt_pow_right (by decide) hk
      by_cases hb : st.testBit k = true
      · have hz : (st &&& 2 ^ k) ≠ 0 := fun z => by rw [Je.mp z] at hb; cases hb
        have ne := qj (a := st &&& 2 ^ k)
        rw [decide_eq_true hz] at ne
        refine ⟨.nx, vT N st (vh ms (2 ^ k) (2 ^ k)) (some (.val (nD k))), ?_, .inl rfl, _, _, rfl, zcK q1, fun v e h => ?_, fun v p => ?_⟩
        · simp only [VW, vT]
          simp [sh, bd, ne]
          rw [zcL (by omega)]
          simp
        · rw [Jc] at h
          split at h
          · rename_i z; cases h; rw [z]; exact ⟨pl, pl⟩
          · exact q2 v e h
        · rw [Jc]
          by_cases ev : v = 2 ^ k
          · rw [if_pos ev]
            constructor
            · rintro ⟨e, h, h2⟩
              cases h
              have : p = k := by
                by_cases z : k = p
                · exact z.symm
                · rw [Nat.testBit_two_pow_of_ne z] at h2; cases h2
              subst this
              exact ⟨by omega, hb, ev⟩
            · rintro ⟨h1, h2, h3⟩
              have : p = k := (Nat.pow_right_inj (by decide : 1 < 2)).mp (h3.symm.trans ev)
              subst this
              exact ⟨_, rfl, Nat.testBit_two_pow_self⟩
          · rw [if_neg ev, q3 v p]
            constructor
            · rintro ⟨h1, h2, h3⟩; exact ⟨by omega, h2, h3⟩
            · rintro ⟨h1, h2, h3⟩
              refine ⟨?_, h2, h3⟩
              by_cases z : p = k
              · subst z; exact absurd h3 ev
              · omega
      · have hb' : st.testBit k = false := by simpa using hb
        have hz := Je.mpr hb'
        have ne := qj (a := st &&& 2 ^ k)
        rw [decide_eq_false (fun z => z hz)] at ne
        refine ⟨.nx, vT N st ms (some (.val (nD k))), ?_, .inl rfl, _, _, rfl, q1, q2, fun v p => ?_⟩
        · simp only [VW, vT]
          simp [sh, bd, ne]
        · rw [q3 v p]
          constructor
          · rintro ⟨h1, h2, h3⟩; exact ⟨by omega, h2, h3⟩
          · rintro ⟨h1, h2, h3⟩
            refine ⟨?_, h2, h3⟩
            by_cases z : p = k
            · subst z; rw [hb'] at h2; cases h2
            · omega
  rw [List.length_range] at q3
  refine ⟨ms, ⟨q1, q2, fun v p => ?_⟩, ?_⟩
  · rw [q3 v p]
    constructor
    · rintro ⟨h1, h2, h3⟩
      exact ⟨[], .one h1 h2, rfl, by rw [h3]; simp [zf]⟩
    · rintro ⟨L, h1, h2, h3⟩
      have : L = [] := List.eq_nil_of_length_eq_zero h2
      subst this
      cases h1 with
      | one h s => exact ⟨h, s, by rw [← h3]; simp [zf]⟩
  · rw [yq zj9 rfl]
    have it := Jd (N := N) (by omega)
    simp -implicitDefEqProofs only [YZ]
    simp -implicitDefEqProofs [YC, it]
    rw [show D.dct false [] [] = dI [] from rfl, ← vT, e]
    simp -implicitDefEqProofs [vT]
end
end LK
namespace LK
open L2.LW
theorem zcP {α : Type} {g : α → D} {i : Nat} {body : Env → Option (Fl × Env)} (I : List α → Env → Prop) {xs : List α} {ρ : Env} (h0 : I [] ρ)
    (st : ∀ pre x post ρ, xs = pre ++ x :: post → I pre ρ → ∃ fl ρ', body (ρ.set i (some (.val (g x)))) = some (fl, ρ') ∧ (fl = .nx ∨ fl = .ct) ∧ I (pre ++ [x]) ρ') :
    ∃ ρ', yH i body (xs.map g) ρ = some (.nx, ρ') ∧ I xs ρ' := by
  have key : ∀ (post pre : List α) (ρ : Env), xs = pre ++ post → I pre ρ → ∃ ρ', yH i body (post.map g) ρ = some (.nx, ρ') ∧ I xs ρ' := by
    intro post
    induction post with
    | nil => intro pre ρ e h; exact ⟨ρ, rfl, by rw [e]; simpa using h⟩
    | cons x post ih =>
      intro pre ρ e h
      obtain ⟨fl, ρ1, e1, e2, h1⟩ := st pre x post ρ e h
      obtain ⟨ρ', e3, h3⟩ := ih (pre ++ [x]) ρ1 (by simp [e]) h1
      refine ⟨ρ', ?_, h3⟩
      rw [List.map_cons, yH, e1]
      simp only [Option.bind_some]
      rcases e2 with rfl | rfl <;> exact e3
  exact key xs [] ρ rfl h0
section
variable {N : Nat} {ns : List Nat} {st : Nat}
noncomputable def vD (lg : Mi) (u p : Nat) : Prop := ∃ e, zX lg u = some e ∧ e.testBit p = true
noncomputable def Zx (N : Nat) (lg : Mi) : Prop := (lg.map (·.1)).Nodup ∧ ∀ v e, zX lg v = some e → v < 2 ^ N ∧ e < 2 ^ N
noncomputable def Xk (ns : List Nat) (ms : Mi) (v q : Nat) : Prop := v.testBit q = false ∧ ∃ e0, zX ms v = some e0 ∧ (e0 &&& ns.getD q 0) ≠ 0
noncomputable def yW (ns : List Nat) (ms lg : Mi) (s3 s4 s5 : Option SV) : Env := [some (.val (.lst (ns.map nD))), some (.val (dI ms)), some (.obj true (dI lg)), s3, s4, s5]
theorem ql {ns : List Nat} {q : Nat} (h : q < ns.length) : ze .idx [.lst (ns.map nD), nD q] = some (.val (nD (ns.getD q 0))) := by
  show ji [.lst (ns.map nD), .int (q : Int)] = _
  unfold ji
  dsimp only
  rw [atI_nat (by simpa using h)]
  simp [List.getD, h]
theorem zkR {ρ : Env} {i : Nat} {ms : Mi} {k v : Nat} (hl : ms.length < line) :
    YB ρ i (some (.val (nD k))) (some (.val (nD v))) (some (some (.obj true (dI ms)))) = some (.nx, ρ.set i (some (.obj true (dI (vh ms k v))))) := zcL hl
theorem zkS (n : Nat) (hN : N ≤ 16) (hns : ns.length = N) {ms lg : Mi} {v e0 q : Nat} {s5 : Option SV} (hv : zX ms v = some e0) (vlt : v < 2 ^ N) (hq : q < N) (wl : Zx N lg) (h5 : zU (some s5) = true) :
    ∃ lg' s5', zy (zR U zp n) zp Zs (yW ns ms lg (some (.val (nD v))) (some (.val (nD q))) s5) = some (.nx, yW ns ms lg' (some (.val (nD v))) (some (.val (nD q))) s5') ∧ Zx N lg' ∧ zU (some s5') = true ∧
      ∀ u p, vD lg' u p ↔ vD lg u p ∨ (Xk ns ms v q ∧ u = v ||| 2 ^ q ∧ p = q) := by
  have hl' := xE
  have sh := jw (n := q) (by omega)
  have b1 := Xi (a := v) (b := 2 ^ q)
  obtain ⟨g, hg⟩ : ∃ g, ns.getD q 0 = g := ⟨_, rfl⟩
  obtain ⟨y, hy⟩ : ∃ y, (zX lg (v ||| 2 ^ q)).getD 0 = y := ⟨_, rfl⟩
  have b2 := Xi (a := e0) (b := g)
  have b3 := zcM (a := v) (b := 2 ^ q)
  have b4 := zcJ (k := v ||| 2 ^ q) (ms := lg)
  rw [hy] at b4
  have b5 := zcM (a := y) (b := 2 ^ q)
  have i1 := zcI hv
  have i2 := ql (ns := ns) (q := q) (by omega)
  rw [hg] at i2
  have kl := zcO wl.1 (fun v e h => (wl.2 v e h).1) hN
  have pl : (2 : Nat) ^ q < 2 ^ N := Nat.pow_lt_pow_right (by decide) hq
  have z1 := zcN (a := v &&& 2 ^ q)
  have z2 := qj (a := e0 &&& g)
  have st := zkR (ρ := yW ns ms lg (some (.val (nD v))) (some (.val (nD q))) (some (.val (nD (2 ^ q))))) (i := 2) (ms := lg) (k := v ||| 2 ^ q) (v := y ||| 2 ^ q) (by omega)
  by_cases c1 : v.testBit q = true
  · have hz : ¬ (v &&& 2 ^ q) = 0 := fun z => by rw [Je.mp z] at c1; cases c1
    rw [decide_eq_false hz] at z1
    refine ⟨lg, some (.val (nD (2 ^ q))), ?_, wl, wv, fun u p => ?_⟩
    · simp only [Zs, yW]
      simp [sh, b1, z1, h5]
    · constructor
      · exact .inl
      · rintro (z | ⟨z, _⟩)
        · exact z
        · rw [z.1] at c1; cases c1
  · have c1' : v.testBit q = false := by simpa using c1
    rw [decide_eq_true (Je.mpr c1')] at z1
    by_cases c2 : (e0 &&& g) = 0
    · rw [decide_eq_false (fun z => z c2)] at z2
      refine ⟨lg, some (.val (nD (2 ^ q))), ?_, wl, wv, fun u p => ?_⟩
      · simp only [Zs, yW]
        simp [sh, b1, z1, h5, i1, i2, b2, z2]
      · constructor
        · exact .inl
        · rintro (z | ⟨⟨_, e1, h1, h2⟩, _⟩)
          · exact z
          · rw [hv] at h1; cases h1; rw [hg] at h2; exact absurd c2 h2
    · rw [decide_eq_true c2] at z2
      refine ⟨vh lg (v ||| 2 ^ q) (y ||| 2 ^ q), some (.val (nD (2 ^ q))), ?_, ⟨zcK wl.1, fun u e h => ?_⟩, wv, fun u p => ?_⟩
      · unfold yW at st
        simp only [Zs, yW]
        simp [sh, b1, z1, h5, i1, i2, b2, z2, b3, b4, b5]
        rw [st]
        simp
      · rw [Jc] at h
        split at h
        · rename_i z
          cases h
          rw [z]
          refine ⟨Nat.or_lt_two_pow vlt pl, Nat.or_lt_two_pow ?_ pl⟩
          rw [← hy]
          cases hh : zX lg (v ||| 2 ^ q) with
          | none => exact Nat.two_pow_pos N
          | some e => exact (wl.2 _ _ hh).2
        · exact wl.2 u e h
      · have ok : Xk ns ms v q := ⟨c1', e0, hv, by rw [hg]; exact c2⟩
        unfold vD
        rw [Jc]
        by_cases eu : u = v ||| 2 ^ q
        · rw [if_pos eu]
          constructor
          · rintro ⟨e, h1, h2⟩
            cases h1
            rw [Nat.testBit_or, Bool.or_eq_true] at h2
            rcases h2 with h2 | h2
            · left
              rw [eu]
              rw [← hy] at h2
              cases hh : zX lg (v ||| 2 ^ q) with
              | none => rw [hh] at h2; simp at h2
              | some e => rw [hh] at h2; exact ⟨e, rfl, h2⟩
            · right
              refine ⟨ok, eu, ?_⟩
              by_cases z : q = p
              · exact z.symm
              · rw [Nat.testBit_two_pow_of_ne z] at h2; cases h2
          · rintro (⟨e, h1, h2⟩ | ⟨_, _, h3⟩)
            · rw [eu] at h1
              refine ⟨_, rfl, ?_⟩
              rw [← hy, h1, Nat.testBit_or]
              show (e.testBit p || _) = true
              rw [h2]; rfl
            · refine ⟨_, rfl, ?_⟩
              rw [Nat.testBit_or, h3, Nat.testBit_two_pow_self, Bool.or_true]
        · rw [if_neg eu]
          constructor
          · exact .inl
          · rintro (z | ⟨_, z, _⟩)
            · exact z
            · exact absurd z eu
theorem zkT (n : Nat) (hN : N ≤ 16) (hns : ns.length = N) {ms lg : Mi} {v e0 : Nat} {s4 s5 : Option SV} (hv : zX ms v = some e0) (vlt : v < 2 ^ N) (wl : Zx N lg) (h4 : zU (some s4) = true) (h5 : zU (some s5) = true) :
    ∃ lg' s4' s5', zy (zR U zp n) zp VX (yW ns ms lg (some (.val (nD v))) s4 s5) = some (.nx, yW ns ms lg' (some (.val (nD v))) s4' s5') ∧ Zx N lg' ∧ (zU (some s4') = true ∧ zU (some s5') = true) ∧
      ∀ u p, vD lg' u p ↔ vD lg u p ∨ (p < N ∧ Xk ns ms v p ∧ u = v ||| 2 ^ p) := by
  obtain ⟨ρ', e, lg', s4', s5', rfl, q1, q2, q3, q4⟩ := kQ (i := 4) (body := zy (zR U zp n) zp Zs)
    (fun k ρ => ∃ lg' s4' s5', ρ = yW ns ms lg' (some (.val (nD v))) s4' s5' ∧ Zx N lg' ∧ zU (some s4') = true ∧ zU (some s5') = true ∧ ∀ u p, vD lg' u p ↔ vD lg u p ∨ (p < k ∧ Xk ns ms v p ∧ u = v ||| 2 ^ p))
    (f := nD) (xs := List.range N) (ρ := yW ns ms lg (some (.val (nD v))) s4 s5) ⟨lg, s4, s5, rfl, wl, h4, h5, fun u p => by
      constructor
      · exact .inl
      · rintro (z | ⟨z, _⟩)
        · exact z
        · omega⟩
    fun k ρ hk zz => by
      obtain ⟨lg', s4', s5', eρ, q1, q2, q3, q4⟩ := zz
      subst eρ
      rw [List.length_range] at hk
      rw [List.getElem_range]
      obtain ⟨lg2, s52, e2, w2, f2, h2⟩ := zkS n hN hns (s5 := s5') hv vlt hk q1 q3
      refine ⟨_, _, e2, .inl rfl, lg2, _, s52, rfl, w2, wv, f2, fun u p => ?_⟩
      rw [h2 u p, q4 u p]
      constructor
      · rintro ((z | ⟨z1, z2, z3⟩) | ⟨z1, z2, z3⟩)
        · exact .inl z
        · exact .inr ⟨by omega, z2, z3⟩
        · exact .inr ⟨by omega, by rw [z3]; exact z1, by rw [z3]; exact z2⟩
      · rintro (z | ⟨z1, z2, z3⟩)
        · exact .inl (.inl z)
        · by_cases ep : p = k
          · subst ep; exact .inr ⟨z2, z3, rfl⟩
          · exact .inl (.inr ⟨by omega, z2, z3⟩)
  rw [List.length_range] at q4
  refine ⟨lg', s4', s5', ?_, q1, ⟨q2, q3⟩, q4⟩
  have it := Jd (N := N) (by omega)
  have ln : ze .len [.lst (ns.map nD)] = some (.val (nD N)) := by
    show zI ((ns.map nD).length : Nat) = _
    rw [List.length_map, hns]; rfl
  simp -implicitDefEqProofs only [VX, zce, YC]
  simp -implicitDefEqProofs [yW, ln, it, h4]
  rw [← yW, e]
  simp -implicitDefEqProofs [yW]
theorem zkU (n : Nat) (hN : N ≤ 16) (hns : ns.length = N) {j : Nat} {ms : Mi} (hm : Lay N (fun q => ns.getD q 0) st j ms) :
    ∃ lg, Lay N (fun q => ns.getD q 0) st (j + 1) lg ∧ zG U zp (n + 1) 64 [.lst (ns.map nD), dI ms] = some (.obj true (dI lg)) := by
  obtain ⟨ρ', e, lg, s3, s4, s5, rfl, q1, q2, q3⟩ := zcP (g := fun p : Nat × Nat => nD p.1) (i := 3) (body := zy (zR U zp n) zp VX)
    (fun pre ρ => ∃ lg s3 s4 s5, ρ = yW ns ms lg s3 s4 s5 ∧ Zx N lg ∧ (zU (some s3) = true ∧ zU (some s4) = true ∧ zU (some s5) = true) ∧ ∀ u p, vD lg u p ↔ ∃ x ∈ pre, p < N ∧ Xk ns ms x.1 p ∧ u = x.1 ||| 2 ^ p)
    (xs := ms) (ρ := yW ns ms [] none none none) ⟨[], none, none, none, rfl, ⟨by simp, fun v e h => (by cases h)⟩, ⟨rfl, rfl, rfl⟩, fun u p => by
      constructor
      · rintro ⟨e, h, _⟩; cases h
      · rintro ⟨x, h, _⟩; cases h⟩
    fun pre x post ρ e zz => by
      obtain ⟨lg, s3, s4, s5, eρ, q1, ⟨f3, f4, f5⟩, q3⟩ := zz
      subst eρ
      have hx : x ∈ ms := by rw [e]; simp
      have hg := (qi hm.nd).mp (show (x.1, x.2) ∈ ms from hx)
      obtain ⟨lg2, s42, s52, e2, w2, ⟨g4, g5⟩, h2⟩ := zkT n hN hns (s4 := s4) (s5 := s5) hg (hm.lt _ _ hg).1 q1 f4 f5
      refine ⟨_, _, e2, .inl rfl, lg2, _, s42, s52, rfl, w2, ⟨wv, g4, g5⟩, fun u p => ?_⟩
      rw [h2 u p, q3 u p]
      constructor
      · rintro (⟨y, hy, z⟩ | z)
        · exact ⟨y, List.mem_append_left _ hy, z⟩
        · exact ⟨x, List.mem_append_right _ (List.mem_singleton.mpr rfl), z⟩
      · rintro ⟨y, hy, z⟩
        rcases List.mem_append.mp hy with hy | hy
        · exact .inl ⟨y, hy, z⟩
        · rw [List.mem_singleton] at hy
          subst hy
          exact .inr z
  refine ⟨lg, ⟨q1.1, q1.2, fun u p => ?_⟩, ?_⟩
  · show vD lg u p ↔ _
    rw [q3 u p]
    constructor
    · rintro ⟨x, hx, hp, ⟨h1, e0, h2, h3⟩, h4⟩
      obtain ⟨r, r1, r2⟩ := Xj.mp h3
      obtain ⟨L, l1, l2, l3⟩ := (hm.is x.1 r).mp ⟨e0, h2, r1⟩
      refine ⟨r :: L, .more l1 hp (fun z => ?_) r2, by simp [l2], ?_⟩
      · rw [← l3] at h1
        rw [yV.mpr z] at h1; cases h1
      · rw [h4, ← l3, zf]
    · rintro ⟨L, l1, l2, l3⟩
      cases l1 with
      | one h s => simp at l2
      | more h lt new nr =>
        rename_i r L
        obtain ⟨e0, h2, r1⟩ := (hm.is (zf (r :: L)) r).mpr ⟨L, h, by simpa using l2, rfl⟩
        refine ⟨(zf (r :: L), e0), (qi hm.nd).mpr h2, lt, ⟨?_, e0, h2, Xj.mpr ⟨r, r1, nr⟩⟩, ?_⟩
        · rw [Bool.eq_false_iff]
          exact fun z => new (yV.mp z)
        · rw [← l3, zf]
  · rw [yq zka rfl]
    have ky : ∀ lg s3 s4 s5, Yd (yW ns ms lg s3 s4 s5) 1 = some (ms.map fun p => nD p.1) := fun _ _ _ _ => rfl
    simp -implicitDefEqProofs only [Xa]
    simp -implicitDefEqProofs [zjQ]
    rw [show D.dct false [] [] = dI [] from rfl, ← yW, ky]
    simp -implicitDefEqProofs only [Option.bind_some]
    rw [e]
    simp -implicitDefEqProofs [yW]
end
end LK
namespace LK
open L2.LW
section
variable {N : Nat} {ns : List Nat} {st : Nat}
theorem zcQ {ls : List Mi} {x : Mi} (h : ls.getLast? = some x) : ze .idx [.lst (ls.map dI), .int (-1)] = some (.val (dI x)) := by
  rw [List.getLast?_eq_getElem?, List.getElem?_eq_some_iff] at h
  obtain ⟨h1, h2⟩ := h
  rw [kO]
  unfold atI ixN
  have hp : 0 < ls.length := by omega
  rw [if_neg (by omega), if_pos (by rw [List.length_map]; omega)]
  simp only [Option.bind_some]
  rw [show (-1 + ((ls.map dI).length : Int)).toNat = ls.length - 1 by rw [List.length_map]; omega]
  rw [List.getElem?_map, List.getElem?_eq_getElem h1, h2]
  rfl
noncomputable def we (ns : List Nat) (st : Nat) (ls : List Mi) : Env := [some (.val (.lst (ns.map nD))), some (.val (nD st)), some (.obj true (.lst (ls.map dI)))]
noncomputable def qm (N : Nat) (ns : List Nat) (st : Nat) (ls : List Mi) : Prop := ∀ j (h : j < ls.length), Lay N (fun q => ns.getD q 0) st j ls[j]
theorem zkV (n : Nat) (hN : N ≤ 16) (h1 : 1 ≤ N) (hns : ns.length = N) : ∃ ls, ls.length = N ∧ qm N ns st ls ∧ zG U zp (n + 2) 65 [.lst (ns.map nD), nD st] = some (.obj true (.lst (ls.map dI))) := by
  have hl' := xE
  obtain ⟨m0, L0, c0⟩ := zkQ (nm := fun q => ns.getD q 0) (st := st) n hN
  have ln : ze .len [.lst (ns.map nD)] = some (.val (nD N)) := by
    show zI ((ns.map nD).length : Nat) = _
    rw [List.length_map, hns]; rfl
  obtain ⟨ρ', e, ls, rfl, q1, q2⟩ := zcl (test := zv (zG U zp (n + 1)) (.prim .lt (.cons (.prim .len (.cons (.var 2) .nil)) (.cons (.prim .len (.cons (.var 0) .nil)) .nil)))) (body := zy (zR U zp (n + 1)) zp kW)
    (fun m ρ => ∃ ls, ρ = we ns st ls ∧ (0 < ls.length ∧ ls.length ≤ N ∧ qm N ns st ls) ∧ m = N - ls.length)
    (fun ρ => ∃ ls, ρ = we ns st ls ∧ ls.length = N ∧ qm N ns st ls)
    (m := N - 1) (n := zp) (ρ := we ns st [m0]) (by unfold zp; omega)
    ⟨[m0], rfl, ⟨by simp, by simpa using h1, fun j h => by
      have : j = 0 := by simpa using h
      subst this
      exact L0⟩, by simp⟩
    fun m ρ zz => by
      obtain ⟨ls, eρ, ⟨q1, q2, q3⟩, rfl⟩ := zz
      subst eρ
      have lt : ze .lt [.int ((ls.map dI).length : Nat), nD N] = some (.val (.bl (decide (ls.length < N)))) := by
        rw [List.length_map]
        have z : decide ((ls.length : Int) < (N : Int)) = decide (ls.length < N) := by rw [decide_eq_decide]; omega
        rw [← z]
        rfl
      have ht : zv (zG U zp (n + 1)) (.prim .lt (.cons (.prim .len (.cons (.var 2) .nil)) (.cons (.prim .len (.cons (.var 0) .nil)) .nil))) (we ns st ls) = some (decide (ls.length < N)) := by
        have ll : ze .len [.lst (ls.map dI)] = some (.val (.int ((ls.map dI).length : Nat))) := rfl
        simp -implicitDefEqProofs only [we, zjL, kK, kJ, zjI]
        simp -implicitDefEqProofs [ln, ll]
        rw [List.length_map] at lt
        rw [lt]
        simp
      by_cases c : ls.length < N
      · refine .inr ⟨by rw [ht, decide_eq_true c], ?_⟩
        obtain ⟨x, hx⟩ : ∃ x, ls.getLast? = some x := by
          cases z : ls.getLast? with
          | none => rw [List.getLast?_eq_none_iff] at z; rw [z] at q1; simp at q1
          | some x => exact ⟨x, rfl⟩
        have hx2 := hx
        rw [List.getLast?_eq_getElem?, List.getElem?_eq_some_iff] at hx2
        obtain ⟨g1, g2⟩ := hx2
        have hL := q3 (ls.length - 1) g1
        rw [g2] at hL
        obtain ⟨lg, l1, l2⟩ := zkU n hN hns hL
        have la := zcQ hx
        refine ⟨.nx, we ns st (ls ++ [lg]), N - (ls.length + 1), ?_, .inl rfl, by omega, ls ++ [lg], rfl, ⟨by simp, by simp; omega, fun j hj => ?_⟩, by simp⟩
        · have ap : VO (we ns st ls) 2 (some (.obj true (dI lg))) (some (some (.obj true (.lst (ls.map dI))))) = some (.nx, we ns st (ls ++ [lg])) := by
            have : ls.length < line := by omega
            simp [we, this]
          unfold we at ap
          simp only [kW, we]
          simp -implicitDefEqProofs [la, l2, ap]
        · rw [List.length_append, List.length_singleton] at hj
          by_cases z : j < ls.length
          · rw [List.getElem_append_left z]; exact q3 j z
          · have : j = ls.length := by omega
            subst this
            rw [List.getElem_append_right (Nat.le_refl _)]
            have e1 : ls.length - 1 + 1 = ls.length := by omega
            rw [e1] at l1
            simpa using l1
      · exact .inl ⟨by rw [ht, decide_eq_false c], ls, rfl, by omega, q3⟩
  refine ⟨ls, q1, q2, ?_⟩
  rw [yq zkb rfl]
  simp -implicitDefEqProofs only [Xb]
  simp -implicitDefEqProofs [zjR, ln, c0]
  rw [show [dI m0] = [m0].map dI from rfl, ← we, e]
  simp -implicitDefEqProofs [we]
end
end LK
namespace LK
open L2.LW
section
variable {N : Nat} {ns : List Nat} {st en : Nat} {f : List zd}
theorem zcR {L : List Nat} (nd : L.Nodup) (lt : ∀ p ∈ L, p < N) (len : L.length = N) : ∀ i, i < N → i ∈ L := fun i hi => by
  by_cases z : i ∈ L
  · exact z
  · have := jv (l := i :: L) (m := List.range N) (List.nodup_cons.mpr ⟨z, nd⟩) fun x hx => by
      rw [List.mem_range]
      rcases List.mem_cons.mp hx with rfl | hx
      · exact hi
      · exact lt x hx
    rw [List.length_cons, List.length_range] at this
    omega
theorem qo {L : List Nat} (nd : L.Nodup) (lt : ∀ p ∈ L, p < N) (len : L.length = N) : zf L = 2 ^ N - 1 := by
  apply Nat.eq_of_testBit_eq
  intro i
  rw [Bool.eq_iff_iff, yV, vC, decide_eq_true_iff]
  exact ⟨lt i, zcR nd lt len i⟩
structure Run (N : Nat) (ns : List Nat) (st en : Nat) (qs : List Nat) : Prop where
  len : qs.length = N
  lt : ∀ q ∈ qs, q < N
  nd : qs.Nodup
  step : ∀ i (h : i + 1 < qs.length), (ns.getD qs[i] 0).testBit qs[i + 1] = true
  head : ∀ z, qs.head? = some z → en.testBit z = true
  last : ∀ z, qs.getLast? = some z → st.testBit z = true
noncomputable def zY (f : List zd) (qs : List Nat) : List zd := qs.map fun q => f.getD q (0, 0)
structure Bck (N : Nat) (ns : List Nat) (st en : Nat) (qs : List Nat) (v E : Nat) : Prop where
  lt : ∀ q ∈ qs, q < N
  nd : qs.Nodup
  off : ∀ q ∈ qs, v.testBit q = false
  step : ∀ i (h : i + 1 < qs.length), (ns.getD qs[i] 0).testBit qs[i + 1] = true
  head : ∀ z, qs.head? = some z → en.testBit z = true
  e0 : qs = [] → E = en
  e1 : ∀ z, qs.getLast? = some z → E = ns.getD z 0
  more : qs.length < N → ∃ p L, Pth N (fun q => ns.getD q 0) st (p :: L) ∧ L.length + 1 + qs.length = N ∧ zf (p :: L) = v ∧ E.testBit p = true
  fin : qs.length = N → ∀ z, qs.getLast? = some z → st.testBit z = true
theorem Bck.turn {qs : List Nat} {v E e q : Nat} {ms : Mi} (b : Bck N ns st en qs v E) (lt : qs.length < N) (hm : Lay N (fun q => ns.getD q 0) st (N - 1 - qs.length) ms) (hg : zX ms v = some e) (hq : (e &&& E).testBit q = true) :
    Bck N ns st en (qs ++ [q]) (v ^^^ 2 ^ q) (ns.getD q 0) ∧ q < N := by
  rw [Nat.testBit_and, Bool.and_eq_true] at hq
  obtain ⟨L, h1, h2, h3⟩ := (hm.is v q).mp ⟨e, hg, hq.1⟩
  have nd := h1.nd
  rw [List.nodup_cons] at nd
  have vq : v.testBit q = true := by rw [← h3]; exact yV.mpr List.mem_cons_self
  have ev : v ^^^ 2 ^ q = zf L := by rw [← h3]; exact zkO nd.1
  have hqN : q < N := h1.lt q List.mem_cons_self
  have nq : q ∉ qs := fun z => by rw [b.off q z] at vq; cases vq
  have en_ : ∀ z, qs.getLast? = some z → (ns.getD z 0).testBit q = true := fun z hz => by rw [← b.e1 z hz]; exact hq.2
  refine ⟨⟨fun x hx => ?_, ?_, fun x hx => ?_, fun i hi => ?_, fun z hz => ?_, fun z => ?_, fun z hz => ?_, fun hl => ?_, fun hl z hz => ?_⟩, hqN⟩
  · rcases List.mem_append.mp hx with hx | hx
    · exact b.lt x hx
    · rw [List.mem_singleton] at hx; rw [hx]; exact hqN
  · rw [List.nodup_append]
    refine ⟨b.nd, by simp, fun a ha c hc e => ?_⟩
    rw [List.mem_singleton] at hc
    rw [hc] at e
    rw [e] at ha
    exact nq ha
  · rw [ev, Bool.eq_false_iff]
    intro z
    have z := yV.mp z
    rcases List.mem_append.mp hx with hx | hx
    · have := b.off x hx
      rw [← h3, yV.mpr (List.mem_cons_of_mem _ z)] at this
      cases this
    · rw [List.mem_singleton] at hx
      rw [hx] at z
      exact nd.1 z
  · rw [List.length_append, List.length_singleton] at hi
    by_cases c : i + 1 < qs.length
    · rw [List.getElem_append_left (by omega), List.getElem_append_left c]
      exact b.step i c
    · have e1 : i + 1 = qs.length := by omega
      rw [List.getElem_append_left (by omega), List.getElem_append_right (by omega)]
      have hz : qs.getLast? = some (qs[i]'(by omega)) := by
        rw [List.getLast?_eq_getElem?, List.getElem?_eq_some_iff]
        exact ⟨by omega, by congr 1; omega⟩
      have := en_ _ hz
      simpa using this
  · cases qs with
    | nil =>
      simp at hz
      subst hz
      rw [← b.e0 rfl]; exact hq.2
    | cons a r => exact b.head z (by simpa using hz)
  · simp at z
  · simp at hz
    rw [hz]
  · rw [List.length_append, List.length_singleton] at hl ⊢
    cases h1 with
    | one h s => simp at h2; omega
    | more h lt new nr =>
      rename_i p L
      exact ⟨p, L, h, by simp at h2; omega, by rw [ev], nr⟩
  · rw [List.length_append, List.length_singleton] at hl
    have : L = [] := List.eq_nil_of_length_eq_zero (by omega)
    subst this
    simp at hz
    subst hz
    cases h1 with
    | one h s => exact s
noncomputable def jx (f : List zd) (ns : List Nat) (st E : Nat) (ls : List Mi) (v : Nat) (qs : List Nat) (s7 s8 : Option SV) : Env :=
  [some (.val (fD f)), some (.val (.lst (ns.map nD))), some (.val (nD st)), some (.val (nD E)), some (.val (.lst (ls.map dI))), some (.val (nD v)), some (.obj true (lD (zY f qs))), s7, s8]
theorem Xl {q : Nat} (h : q < f.length) : ze .idx [fD f, nD q] = some (.val (cD (f.getD q (0, 0)))) := by
  have := kZ h
  rw [show f.getD q (0, 0) = f[q] by simp [List.getD, h]]
  exact this
theorem zkW (n : Nat) (hN : N ≤ 16) (hns : ns.length = N) (hf : f.length = N) {ls : List Mi} {qs : List Nat} {v E : Nat} {ms : Mi} {s8 : Option SV} (b : Bck N ns st en qs v E) (lt : qs.length < N) (hm : Lay N (fun q => ns.getD q 0) st (N - 1 - qs.length) ms) (h8 : zU (some s8) = true) :
    ∃ q, Bck N ns st en (qs ++ [q]) (v ^^^ 2 ^ q) (ns.getD q 0) ∧ zy (zR U zp n) zp VY (jx f ns st E ls v qs (some (.val (dI ms))) s8) = some (.nx, jx f ns st (ns.getD q 0) ls (v ^^^ 2 ^ q) (qs ++ [q]) (some (.val (dI ms))) (some (.val (nD q)))) := by
  have hl' := xE
  obtain ⟨p, L, p1, p2, p3, p4⟩ := b.more lt
  obtain ⟨e, g1, g2⟩ := (hm.is v p).mpr ⟨L, p1, by omega, p3⟩
  have nz : (e &&& E) ≠ 0 := Xj.mpr ⟨p, g2, p4⟩
  have hq := zkP nz
  obtain ⟨b2, qN⟩ := b.turn lt hm g1 hq
  obtain ⟨q, hqe⟩ : ∃ q, wC (e &&& E) - 1 = q := ⟨_, rfl⟩
  rw [hqe] at hq b2 qN
  refine ⟨q, b2, ?_⟩
  have i1 := zcI g1
  have i2 := Xi (a := e) (b := E)
  have i3 := zkN (a := e &&& E)
  have i4 : ze .sub [nD (wC (e &&& E)), .int 1] = some (.val (nD q)) := by
    have : wC (e &&& E) = q + 1 := by
      have : wC (e &&& E) ≠ 0 := by unfold wC; rw [if_neg nz]; omega
      omega
    rw [this]
    show zI (((q + 1 : Nat) : Int) - 1) = _
    have : ((q + 1 : Nat) : Int) - 1 = (q : Int) := by omega
    rw [this]; rfl
  have i5 := Xl (f := f) (q := q) (by omega)
  have i6 := jw (n := q) (by omega)
  have i7 := zkM (a := v) (b := 2 ^ q)
  have i8 := ql (ns := ns) (q := q) (by omega)
  have ap : ∀ ρ : Env, VO ρ 6 (some (.val (cD (f.getD q (0, 0))))) (some (some (.obj true (lD (zY f qs))))) = some (.nx, ρ.set 6 (some (.obj true (lD (zY f (qs ++ [q])))))) := fun ρ => by
    have : ((zY f qs).map cD).length < line := by rw [List.length_map]; unfold zY; rw [List.length_map]; omega
    rw [lD, zjN]
    simp only [Option.bind_some, zcf, this, if_true]
    simp [lD, zY]
  generalize f.getD q (0, 0) = c at *
  generalize ns.getD q 0 = g at *
  simp -implicitDefEqProofs only [VY, jx]
  simp -implicitDefEqProofs [i1, i2, i3, i4, i5, i6, i7, i8, h8, ap]
end
end LK
namespace LK
open L2.LW
section
variable {N : Nat} {ns : List Nat} {st en : Nat} {f : List zd}
theorem zcS (n : Nat) (hN : N ≤ 16) (h1 : 1 ≤ N) (hns : ns.length = N) (hf : f.length = N) :
    (∃ qs, Run N ns st en qs ∧ zG U zp (n + 3) 66 [fD f, .lst (ns.map nD), nD st, nD en] = some (.obj true (lD (zY f qs)))) ∨
    ((∀ p L, Pth N (fun q => ns.getD q 0) st (p :: L) → L.length + 1 = N → en.testBit p = false) ∧ zG U zp (n + 3) 66 [fD f, .lst (ns.map nD), nD st, nD en] = some (.val .non)) := by
  have hl' := xE
  obtain ⟨ls, l1, l2, c1⟩ := zkV (ns := ns) (st := st) n hN h1 hns
  have hx : ls.getLast? = some (ls[N - 1]'(by omega)) := by
    have z : ls[ls.length - 1]? = ls[N - 1]? := by rw [l1]
    rw [List.getLast?_eq_getElem?, z]
    exact List.getElem?_eq_getElem _
  have hL := l2 (N - 1) (by omega)
  generalize ls[N - 1]'(by omega) = x at *
  have i0 := zcQ hx
  have ln : ze .len [fD f] = some (.val (nD N)) := by rw [xZ, hf]; rfl
  have i1 := jw (n := N) (by omega)
  have i2 : ze .sub [nD (2 ^ N), .int 1] = some (.val (nD (2 ^ N - 1))) := by
    show zI (((2 ^ N : Nat) : Int) - 1) = _
    have : ((2 ^ N : Nat) : Int) - 1 = ((2 ^ N - 1 : Nat) : Int) := by have := Nat.two_pow_pos N; omega
    rw [this]; rfl
  have i3 := zcJ (k := 2 ^ N - 1) (ms := x)
  obtain ⟨e, he⟩ : ∃ e, (zX x (2 ^ N - 1)).getD 0 = e := ⟨_, rfl⟩
  rw [he] at i3
  have i4 := Xi (a := e) (b := en)
  have i5 := zcN (a := e &&& en)
  rw [yq zkc rfl]
  by_cases z : (e &&& en) = 0
  · refine .inr ⟨fun p L hp hlen => ?_, ?_⟩
    · obtain ⟨e', g1, g2⟩ := (hL.is (2 ^ N - 1) p).mpr ⟨L, hp, by omega, qo hp.nd hp.lt (by simpa using hlen)⟩
      rw [g1] at he
      have he : e' = e := he
      subst he
      rw [Bool.eq_false_iff]
      exact fun h => Xj.mpr ⟨p, g2, h⟩ z
    · rw [decide_eq_true z] at i5
      simp -implicitDefEqProofs only [Zt]
      simp -implicitDefEqProofs [c1, ln, i1, i2, i0, i3, i4, i5]
  · rw [decide_eq_false z] at i5
    obtain ⟨p, b1, b2⟩ := Xj.mp z
    have ge : zX x (2 ^ N - 1) = some e := by
      cases hg : zX x (2 ^ N - 1) with
      | none => rw [hg] at he; have he : 0 = e := he; rw [← he] at b1; simp at b1
      | some y => rw [hg] at he; have he : y = e := he; rw [he]
    obtain ⟨L, p1, p2, p3⟩ := (hL.is _ p).mp ⟨e, ge, b1⟩
    have B0 : Bck N ns st en [] (2 ^ N - 1) en := ⟨fun q h => (by cases h), List.nodup_nil, fun q h => (by cases h), fun i h => (by simp at h), fun z h => (by cases h), fun _ => rfl, fun z h => (by cases h), fun _ => ⟨p, L, p1, by simp; omega, p3, b2⟩, fun h z hz => (by cases hz)⟩
    obtain ⟨ρ', ex, qs, v, E, s7, s8, rfl, q1, q2, _⟩ := zcP (g := dI) (i := 7) (body := zy (zR U zp (n + 2)) zp VY)
      (fun pre ρ => ∃ qs v E s7 s8, ρ = jx f ns st E ls v qs s7 s8 ∧ qs.length = pre.length ∧ Bck N ns st en qs v E ∧ zU (some s7) = true ∧ zU (some s8) = true)
      (xs := ls.reverse) (ρ := jx f ns st en ls (2 ^ N - 1) [] none none) ⟨[], 2 ^ N - 1, en, none, none, rfl, rfl, B0, rfl, rfl⟩
      fun pre m post ρ e zz => by
        obtain ⟨qs, v, E, s7, s8, eρ, q1, q2, f7, f8⟩ := zz
        subst eρ
        have ll := congrArg List.length e
        rw [List.length_reverse, List.length_append, List.length_cons] at ll
        have gm : ls.reverse[pre.length]? = some m := by rw [e]; simp
        rw [List.getElem?_eq_some_iff] at gm
        obtain ⟨g1, g2⟩ := gm
        rw [List.getElem_reverse] at g2
        have hm := l2 (ls.length - 1 - pre.length) (by omega)
        rw [g2, show ls.length - 1 - pre.length = N - 1 - qs.length by omega] at hm
        obtain ⟨q, b3, e3⟩ := zkW (n + 2) hN hns hf (ls := ls) (s8 := s8) q2 (by omega) hm f8
        exact ⟨_, _, e3, .inl rfl, qs ++ [q], _, _, _, _, rfl, by simp [q1], b3, wv, wv⟩
    rw [List.length_reverse] at q1
    refine .inl ⟨qs, ⟨by omega, q2.lt, q2.nd, q2.step, q2.head, q2.fin (by omega)⟩, ?_⟩
    have rv : zZ false [.val (.lst (ls.map dI)), .val .non] = some (ls.map dI).reverse := rfl
    rw [List.map_reverse] at ex
    simp -implicitDefEqProofs only [Zt]
    simp -implicitDefEqProofs [c1, ln, i1, i2, i0, i3, i4, i5, YC, rv]
    rw [show D.lst [] = lD (zY f []) from rfl, ← jx, ex]
    simp -implicitDefEqProofs [jx]
noncomputable def vi (f : List zd) (l c : zd) : Nat := zf ((List.range f.length).filter fun k => zO l c (f.getD k (0, 0)))
theorem zkX {l c : zd} {k : Nat} : (vi f l c).testBit k = true ↔ k < f.length ∧ zO l c (f.getD k (0, 0)) = true := by
  unfold vi
  rw [yV, List.mem_filter, List.mem_range]
theorem zkY {l c : zd} : (((List.range f.length).filter fun k => zO l c (f.getD k (0, 0))).map fun k => 2 ^ k).sum = vi f l c := by
  unfold vi
  have key : ∀ M, (((List.range M).filter fun k => zO l c (f.getD k (0, 0))).map fun k => 2 ^ k).sum = zf ((List.range M).filter fun k => zO l c (f.getD k (0, 0))) := by
    intro M
    induction M with
    | zero => rfl
    | succ M ih =>
      rw [List.range_succ, List.filter_append, List.map_append, List.sum_append, ih]
      have lt : zf ((List.range M).filter fun k => zO l c (f.getD k (0, 0))) < 2 ^ M := qk fun p hp => List.mem_range.mp (List.mem_filter.mp hp).1
      by_cases h : zO l c (f.getD M (0, 0)) = true
      · rw [List.filter_cons_of_pos (by simpa using h)]
        simp only [List.filter_nil, List.map_cons, List.map_nil, List.sum_cons, List.sum_nil, Nat.add_zero]
        have z := Nat.two_pow_add_eq_or_of_lt lt 1
        rw [Nat.mul_one] at z
        rw [Nat.add_comm, z]
        apply Nat.eq_of_testBit_eq
        intro i
        rw [Bool.eq_iff_iff, yV, Nat.testBit_or, Bool.or_eq_true, yV, List.mem_append, List.mem_singleton]
        constructor
        · rintro (z | z)
          · right
            by_cases e : M = i
            · exact e.symm
            · rw [Nat.testBit_two_pow_of_ne e] at z; cases z
          · exact .inl z
        · rintro (z | z)
          · exact .inr z
          · subst z; exact .inl Nat.testBit_two_pow_self
      · rw [List.filter_cons_of_neg (by simpa using h)]
        simp
  exact key f.length
end
end LK
namespace LK
open L2.LW
section
variable {f : List zd} {l : zd}
theorem zkZ {fn : Nat → List D → Option SV} {src cond elt : E} {ρ : Env} : zg fn (.compE src cond elt) ρ = (zg fn src ρ).bind fun r => (Yb r).bind fun ds =>
    if ds.length ≤ line then (yG (fun p => wV p fun a b => zv fn cond (some (.val a) :: some (.val b) :: ρ)) (fun p => wV p fun a b => zg fn elt (some (.val a) :: some (.val b) :: ρ)) (yM 0 ds)).map fun l => .obj true (.lst l) else none := rfl
theorem zcT : ∀ (m : Nat) (xs : List zd), yM m (xs.map cD) = (List.range xs.length).map fun k => .tup [nD (m + k), cD (xs.getD k (0, 0))]
  | _, [] => rfl
  | m, c :: r => by
    rw [List.map_cons, yM, zcT (m + 1) r, List.length_cons, List.range_succ_eq_map, List.map_cons, List.map_map]
    congr 1
    apply List.map_congr_left
    intro k _
    show D.tup [nD (m + 1 + k), _] = D.tup [nD (m + (k + 1)), _]
    rw [show m + 1 + k = m + (k + 1) by omega]
    rfl
theorem zcU (n : Nat) (hf : f.length ≤ 16) (c : zd) : zG U zp (n + 3) 62 [fD f, cD l, cD c] = some (.val (nD (vi f l c))) := by
  have hl' := xE
  have cp : ∀ ρ : Env, ρ[0]? = some (some (.val (fD f))) → ρ[1]? = some (some (.val (cD l))) → ρ[2]? = some (some (.val (cD c))) →
      zg (zG U zp (n + 2)) (.compE (.var 0) (.call 10 (.cons (.var 3) (.cons (.var 4) (.cons (.var 1) .nil)))) (.prim .shl (.cons (.int 1) (.cons (.var 0) .nil)))) ρ =
        some (.obj true (.lst (((List.range f.length).filter fun k => zO l c (f.getD k (0, 0))).map fun k => nD (2 ^ k)))) := by
    intro ρ h0 h1 h2
    rw [zkZ]
    have e0 : zg (zG U zp (n + 2)) (.var 0) ρ = some (.val (fD f)) := by simp [h0]
    rw [e0]
    simp only [Option.bind_some]
    rw [show Yb (.val (fD f)) = some (f.map cD) from rfl]
    simp only [Option.bind_some]
    rw [if_pos (by rw [List.length_map]; omega), zcT, kP (t := fun k => zO l c (f.getD k (0, 0))) (e := fun k => nD (2 ^ k))]
    · rfl
    · intro k hk
      have an := zks n l c (f.getD k (0, 0))
      rw [Nat.zero_add]
      generalize f.getD k (0, 0) = d at *
      show zv _ _ (some (.val (nD k)) :: some (.val (cD d)) :: ρ) = _
      simp [h1, h2, an]
    · intro k hk _
      rw [List.mem_range] at hk
      have sh := jw (n := k) (by omega)
      rw [Nat.zero_add]
      generalize f.getD k (0, 0) = d at *
      show (zg _ _ (some (.val (nD k)) :: some (.val (cD d)) :: ρ)).bind toD = _
      simp [sh]
  have sm : ze .sumL [.lst (((List.range f.length).filter fun k => zO l c (f.getD k (0, 0))).map fun k => nD (2 ^ k))] = some (.val (nD (vi f l c))) := by
    rw [← zkY]
    generalize (List.range f.length).filter (fun k => zO l c (f.getD k (0, 0))) = L
    have e : (L.map fun k => nD (2 ^ k)) = (L.map fun k => ((2 ^ k : Nat) : Int)).map D.int := by rw [List.map_map]; rfl
    rw [e, zjY]
    have : (L.map fun k => ((2 ^ k : Nat) : Int)).sum = (((L.map fun k => 2 ^ k).sum : Nat) : Int) := by
      induction L with
      | nil => rfl
      | cons a r ih => rw [List.map_cons, List.map_cons, List.sum_cons, List.sum_cons, ih (by rw [List.map_map]; rfl)]; rfl
    rw [this]; rfl
  generalize (((List.range f.length).filter fun k => zO l c (f.getD k (0, 0))).map fun k => nD (2 ^ k)) = G at *
  rw [yq zj8 rfl]
  simp only [YY]
  simp [cp, sm]
theorem zcV : ∀ w : List zd, (SV.obj true (lD w)).plain = true := fun w => by
  show yE (w.map cD) = true
  induction w with
  | nil => rfl
  | cons a r ih => simp [ih]
structure HW (f : List zd) (l : zd) (w : List zd) : Prop where
  pm : w.Perm f
  step : ∀ i (h : i + 1 < w.length), zO l w[i] w[i + 1] = true
noncomputable def yr (f : List zd) (l : zd) : List Nat := f.map (vi f l)
theorem Xm {p q : Nat} (hp : p < f.length) : ((yr f l).getD p 0).testBit q = true ↔ q < f.length ∧ zO l (f.getD p (0, 0)) (f.getD q (0, 0)) = true := by
  have : (yr f l).getD p 0 = vi f l (f.getD p (0, 0)) := by
    unfold yr
    rw [List.getD_eq_getElem?_getD, List.getD_eq_getElem?_getD, List.getElem?_map, List.getElem?_eq_getElem hp]; rfl
  rw [this, zkX]
theorem Xn {N st : Nat} {nm : Nat → Nat} : ∀ {ps : List Nat}, ps ≠ [] → ps.Nodup → (∀ p ∈ ps, p < N) → (∀ i (h : i + 1 < ps.length), (nm ps[i]).testBit ps[i + 1] = true) → (∀ z, ps.getLast? = some z → st.testBit z = true) → Pth N nm st ps
  | [], h, _, _, _, _ => absurd rfl h
  | [p], _, _, lt, _, la => .one (lt p List.mem_cons_self) (la p rfl)
  | q :: p :: r, _, nd, lt, sp, la => by
    rw [List.nodup_cons] at nd
    refine .more (Xn (by simp) nd.2 (fun x hx => lt x (List.mem_cons_of_mem _ hx)) (fun i h => ?_) fun z hz => la z (by rw [List.getLast?_cons_cons]; exact hz)) (lt q List.mem_cons_self) nd.1 (sp 0 (by simp))
    exact sp (i + 1) (by simpa using h)
theorem Jf (nd : f.Nodup) {st en : Nat} {qs : List Nat} (r : Run f.length (yr f l) st en qs) : HW f l (zY f qs) := by
  refine ⟨?_, fun i h => ?_⟩
  · have pq : qs.Perm (List.range f.length) := by
      rw [List.perm_ext_iff_of_nodup r.nd List.nodup_range]
      intro x
      rw [List.mem_range]
      exact ⟨r.lt x, zcR r.nd r.lt r.len x⟩
    have := pq.map fun q => f.getD q (0, 0)
    refine this.trans (List.Perm.of_eq ?_)
    apply List.ext_getElem
    · simp
    · intro i h1 h2
      simp [List.getD, h2]
  · unfold zY at h ⊢
    rw [List.length_map] at h
    rw [List.getElem_map, List.getElem_map]
    exact ((Xm (r.lt _ (List.getElem_mem _))).mp (r.step i h)).2
theorem Jg (nd : f.Nodup) {w : List zd} (h : HW f l w) : ∃ qs, zY f qs = w ∧ qs.length = f.length ∧ (∀ q ∈ qs, q < f.length) ∧ qs.Nodup ∧ ∀ i (h : i + 1 < qs.length), ((yr f l).getD qs[i] 0).testBit qs[i + 1] = true := by
  have lt : ∀ c ∈ w, f.idxOf c < f.length := fun c hc => List.idxOf_lt_length_of_mem (h.pm.mem_iff.mp hc)
  have gt : ∀ c ∈ w, f.getD (f.idxOf c) (0, 0) = c := fun c hc => by
    have := lt c hc
    rw [List.getD_eq_getElem?_getD, List.getElem?_eq_getElem this]
    exact List.getElem_idxOf this
  refine ⟨w.map f.idxOf, ?_, by rw [List.length_map]; exact h.pm.length_eq, fun q hq => ?_, ?_, fun i hi => ?_⟩
  · unfold zY
    rw [List.map_map]
    conv => rhs; rw [← List.map_id w]
    apply List.map_congr_left
    intro c hc
    exact gt c hc
  · obtain ⟨c, hc, rfl⟩ := List.mem_map.mp hq
    exact lt c hc
  · unfold List.Nodup
    rw [List.pairwise_map]
    refine (h.pm.nodup_iff.mpr nd).imp_of_mem fun {a b} ha hb hab e => hab ?_
    rw [← gt a ha, ← gt b hb, e]
  · rw [List.length_map] at hi
    rw [List.getElem_map, List.getElem_map, Xm (lt _ (List.getElem_mem _))]
    refine ⟨lt _ (List.getElem_mem _), ?_⟩
    rw [gt _ (List.getElem_mem _), gt _ (List.getElem_mem _)]
    exact h.step i hi
theorem zcW (n : Nat) {m : Int} (h : (f.length : Int) ≤ m) : zG U zp (n + 1) 61 [fD f, .int m] = some (.val .non) := by
  rw [yq zj7 rfl]
  have : ¬ m < (f.length : Int) := by omega
  simp only [YX]
  simp [xZ, this]
theorem zcX (n : Nat) (hf : OkF f) (hl : OkL l) (h16 : f.length ≤ 16) :
    (∃ w, HW f l w ∧ zG U zp (n + 5) 67 [fD f, cD l] = some (.obj true (lD w))) ∨ ((∀ w, ¬ HW f l w) ∧ zG U zp (n + 5) 67 [fD f, cD l] = some (.val .non)) := by
  have hl' := xE
  have nd := OkF.nodup hf.rise
  have h1 : 1 ≤ f.length := by have := hf.ne; cases f <;> simp_all
  have nz : zG U zp (n + 4) 6 [fD f] = some (.val (fD f)) := zcu n hf
  have cl : zG U zp (n + 4) 7 [cD l] = some (.val (cD l)) := zcv (n + 1) hl
  have rb := zcW (f := f) (n + 3) (m := 16) (by omega)
  have cp : ∀ ρ : Env, ρ[0]? = some (some (.val (fD f))) → ρ[1]? = some (some (.val (cD l))) → zg (zG U zp (n + 4)) (.comp false (.cons (.var 0) .nil) (.bl true) (.call 62 (.cons (.var 1) (.cons (.var 2) (.cons (.var 0) .nil))))) ρ = some (.obj true (.lst ((yr f l).map nD))) := by
    intro ρ h0 h1
    rw [Zr (rs := [.val (fD f)]) (xs := f) (f := cD) (fun c => nD (vi f l c))]
    · unfold yr; rw [List.map_map]; rfl
    · simp [h0]
    · rfl
    · omega
    · intro c _
      have := zcU (l := l) (n + 1) h16 c
      simp [h0, h1, this]
  have i1 := jw (n := f.length) (by omega)
  have ln : ze .len [fD f] = some (.val (nD f.length)) := by rw [xZ]; rfl
  have i2 : ze .sub [nD (2 ^ f.length), .int 1] = some (.val (nD (2 ^ f.length - 1))) := by
    show zI (((2 ^ f.length : Nat) : Int) - 1) = _
    have : ((2 ^ f.length : Nat) : Int) - 1 = ((2 ^ f.length - 1 : Nat) : Int) := by have := Nat.two_pow_pos f.length; omega
    rw [this]; rfl
  rw [yq zkd rfl]
  rcases zcS (N := f.length) (ns := yr f l) (st := 2 ^ f.length - 1) (en := 2 ^ f.length - 1) (f := f) (n + 1) h16 h1 (by unfold yr; simp) rfl with ⟨qs, r, e⟩ | ⟨no, e⟩
  · refine .inl ⟨zY f qs, Jf nd r, ?_⟩
    have pw := zcV (zY f qs)
    simp -implicitDefEqProofs only [Zu]
    simp -implicitDefEqProofs [nz, cl, rb, cp, ln, i1, i2, e, pw]
  · refine .inr ⟨fun w hw => ?_, ?_⟩
    · obtain ⟨qs, q1, q2, q3, q4, q5⟩ := Jg nd hw
      cases qs with
      | nil => simp at q2; omega
      | cons p L =>
        have pt : Pth f.length (fun q => (yr f l).getD q 0) (2 ^ f.length - 1) (p :: L) := Xn (by simp) q4 q3 q5 fun z hz => by
          rw [vC, decide_eq_true_iff]
          exact q3 z (List.mem_of_getLast? hz)
        have := no p L pt (by simpa using q2)
        rw [vC, decide_eq_false_iff_not] at this
        exact this (q3 p List.mem_cons_self)
    · simp -implicitDefEqProofs only [Zu]
      simp -implicitDefEqProofs [nz, cl, rb, cp, ln, i1, i2, e]
end
end LK
namespace LK
open L2.LW
section
variable {f : List zd} {l : zd}
inductive Chn (l : zd) : List zd → Prop where
  | nil : Chn l []
  | one (a : zd) : Chn l [a]
  | cons {a b : zd} {r : List zd} (h : zO l a b = true) (t : Chn l (b :: r)) : Chn l (a :: b :: r)
theorem zcY : ∀ {w : List zd}, Chn l w → ∀ i (h : i + 1 < w.length), zO l w[i] w[i + 1] = true
  | _, .nil, i, h => by simp at h
  | _, .one a, i, h => by simp at h
  | _, .cons h t, 0, _ => h
  | _, .cons h t, i + 1, hi => zcY t i (by simpa using hi)
theorem zcZ : ∀ {w : List zd}, (∀ i (h : i + 1 < w.length), zO l w[i] w[i + 1] = true) → Chn l w
  | [], _ => .nil
  | [a], _ => .one a
  | a :: b :: r, h => .cons (h 0 (by simp)) (zcZ fun i hi => h (i + 1) (by simpa using hi))
theorem qp : ∀ {a b : List zd}, Chn l (a ++ b) ↔ Chn l a ∧ Chn l b ∧ ∀ x y, a.getLast? = some x → b.head? = some y → zO l x y = true
  | [], b => by simp only [List.nil_append]; exact ⟨fun h => ⟨.nil, h, fun x y hx => (by cases hx)⟩, fun h => h.2.1⟩
  | [a], b => by
    cases b with
    | nil => simp only [List.append_nil]; exact ⟨fun h => ⟨h, .nil, fun x y _ hy => (by cases hy)⟩, fun h => h.1⟩
    | cons c r =>
      constructor
      · intro h
        cases h with
        | cons h t => exact ⟨.one a, t, fun x y hx hy => by cases hx; cases hy; exact h⟩
      · rintro ⟨_, h2, h3⟩
        exact .cons (h3 a c rfl rfl) h2
  | a :: a2 :: r, b => by
    have ih := qp (a := a2 :: r) (b := b)
    constructor
    · intro h
      cases h with
      | cons h t =>
        obtain ⟨h1, h2, h3⟩ := ih.mp t
        exact ⟨.cons h h1, h2, fun x y hx hy => h3 x y (by rw [List.getLast?_cons_cons] at hx; exact hx) hy⟩
    · rintro ⟨h1, h2, h3⟩
      cases h1 with
      | cons h t => exact .cons h (ih.mpr ⟨t, h2, fun x y hx hy => h3 x y (by rw [List.getLast?_cons_cons]; exact hx) hy⟩)
structure HR (f : List zd) (l : zd) (w : List zd) : Prop extends HW f l w where
  ring : ∀ a b, w.head? = some a → w.getLast? = some b → zO l a b = true
theorem HR.turn {w : List zd} (h : HR f l w) {c : zd} (hc : c ∈ f) : ∃ w', HR f l w' ∧ w'.getLast? = some c := by
  obtain ⟨a, b, rfl⟩ := List.append_of_mem (h.pm.mem_iff.mpr hc)
  have ch := zcZ h.step
  rw [show a ++ c :: b = (a ++ [c]) ++ b by simp] at ch
  obtain ⟨c1, c2, c3⟩ := qp.mp ch
  have la : (a ++ [c]).getLast? = some c := by simp
  refine ⟨b ++ (a ++ [c]), ⟨⟨?_, zcY (qp.mpr ⟨c2, c1, fun x y hx hy => ?_⟩)⟩, fun x y hx hy => ?_⟩, by rw [← List.append_assoc]; simp⟩
  · refine List.Perm.trans ?_ h.pm
    rw [show a ++ c :: b = (a ++ [c]) ++ b by simp]
    exact List.perm_append_comm
  · have := h.ring y x (by
      cases a with
      | nil => simpa using hy
      | cons z r => simpa using hy) (by
      rw [show a ++ c :: b = (a ++ [c]) ++ b by simp, List.getLast?_append, hx]; rfl)
    rw [Zv]; exact this
  · have ey : y = c := by
      rw [← List.append_assoc, List.getLast?_append] at hy
      simp at hy
      exact hy.symm
    subst ey
    cases b with
    | cons z r =>
      have : x = z := by simpa using hx.symm
      subst this
      rw [Zv]
      exact c3 y x la rfl
    | nil =>
      have hx' : (a ++ [y]).head? = some x := by simpa using hx
      exact h.ring x y hx' (by simp)
theorem zk0 (n : Nat) (hf : OkF f) (hl : OkL l) (h16 : f.length ≤ 16) :
    (f.length < 3 ∧ zG U zp (n + 5) 68 [fD f, cD l] = some (.val .non)) ∨ (3 ≤ f.length ∧ ∃ w, HR f l w ∧ zG U zp (n + 5) 68 [fD f, cD l] = some (.obj true (lD w))) ∨
    (3 ≤ f.length ∧ (∀ w, ¬ HR f l w) ∧ zG U zp (n + 5) 68 [fD f, cD l] = some (.val .non)) := by
  have hl' := xE
  have nd := OkF.nodup hf.rise
  have nz : zG U zp (n + 4) 6 [fD f] = some (.val (fD f)) := zcu n hf
  have cl : zG U zp (n + 4) 7 [cD l] = some (.val (cD l)) := zcv (n + 1) hl
  have rb := zcW (f := f) (n + 3) (m := 16) (by omega)
  rw [yq zke rfl]
  by_cases h3 : f.length < 3
  · refine .inl ⟨h3, ?_⟩
    have lt : ((f.length : Int) < 3) := by omega
    simp -implicitDefEqProofs only [jr]
    simp -implicitDefEqProofs [nz, cl, rb, xZ, lt]
  · have lt : ¬ ((f.length : Int) < 3) := by omega
    have cp : ∀ ρ : Env, ρ[0]? = some (some (.val (fD f))) → ρ[1]? = some (some (.val (cD l))) → zg (zG U zp (n + 4)) (.comp false (.cons (.var 0) .nil) (.bl true) (.call 62 (.cons (.var 1) (.cons (.var 2) (.cons (.var 0) .nil))))) ρ = some (.obj true (.lst ((yr f l).map nD))) := by
      intro ρ h0 h1
      rw [Zr (rs := [.val (fD f)]) (xs := f) (f := cD) (fun c => nD (vi f l c))]
      · unfold yr; rw [List.map_map]; rfl
      · simp [h0]
      · rfl
      · omega
      · intro c _
        have := zcU (l := l) (n + 1) h16 c
        simp [h0, h1, this]
    have i0 : ze .idx [.lst ((yr f l).map nD), .int 0] = some (.val (nD ((yr f l).getD 0 0))) := ql (ns := yr f l) (q := 0) (by unfold yr; simp; omega)
    have b1 : ∀ z, (1 : Nat).testBit z = true ↔ z = 0 := fun z => by
      have := Nat.testBit_two_pow (n := 0) (m := z)
      rw [Nat.pow_zero] at this
      rw [this, decide_eq_true_iff]
      exact eq_comm
    have c0 : f.getD 0 (0, 0) ∈ f := by
      rw [List.getD_eq_getElem?_getD, List.getElem?_eq_getElem (by omega : 0 < f.length)]
      exact List.getElem_mem _
    have nb := fun z => Xm (f := f) (l := l) (p := 0) (q := z) (by omega)
    generalize he : (yr f l).getD 0 0 = en at *
    rcases zcS (N := f.length) (ns := yr f l) (st := 1) (en := en) (f := f) (n + 1) h16 (by omega) (by unfold yr; simp) rfl with ⟨qs, r, e⟩ | ⟨no, e⟩
    · refine .inr (.inl ⟨by omega, zY f qs, ⟨Jf nd r, fun a b ha hb => ?_⟩, ?_⟩)
      · unfold zY at ha hb
        rw [List.head?_map, jo2] at ha
        rw [List.getLast?_map, jo2] at hb
        obtain ⟨x, hx, rfl⟩ := ha
        obtain ⟨y, hy, rfl⟩ := hb
        rw [(b1 y).mp (r.last y hy), Zv]
        exact ((nb x).mp (r.head x hx)).2
      · have pw := zcV (zY f qs)
        simp -implicitDefEqProofs only [jr]
        simp -implicitDefEqProofs [nz, cl, rb, xZ, lt, cp, i0, pw]
        rw [show D.int 1 = nD 1 from rfl, e]
        simp -implicitDefEqProofs [pw]
    · refine .inr (.inr ⟨by omega, fun w hw => ?_, ?_⟩)
      · obtain ⟨w', hw', hla⟩ := hw.turn c0
        obtain ⟨qs, q1, q2, q3, q4, q5⟩ := Jg nd hw'.toHW
        cases qs with
        | nil => simp at q2; omega
        | cons p L =>
          have ls : ∀ z, (p :: L).getLast? = some z → z = 0 := fun z hz => by
            have h1 : w'.getLast? = some (f.getD z (0, 0)) := by rw [← q1]; unfold zY; rw [List.getLast?_map, hz]; rfl
            rw [hla] at h1
            have h2 : f.getD 0 (0, 0) = f.getD z (0, 0) := by simpa using h1
            have zl := q3 z (List.mem_of_getLast? hz)
            rw [List.getD_eq_getElem?_getD, List.getD_eq_getElem?_getD, List.getElem?_eq_getElem zl, List.getElem?_eq_getElem (by omega : 0 < f.length)] at h2
            exact ((List.getElem_inj nd).mp h2).symm
          have pt : Pth f.length (fun q => (yr f l).getD q 0) 1 (p :: L) := Xn (by simp) q4 q3 q5 fun z hz => (b1 z).mpr (ls z hz)
          have h5 := no p L pt (by simpa using q2)
          have h6 : en.testBit p = true := by
            rw [nb p]
            refine ⟨q3 p List.mem_cons_self, ?_⟩
            have := hw'.ring (f.getD p (0, 0)) (f.getD 0 (0, 0)) (by rw [← q1]; rfl) hla
            rw [Zv]; exact this
          rw [h6] at h5; cases h5
      · simp -implicitDefEqProofs only [jr]
        simp -implicitDefEqProofs [nz, cl, rb, xZ, lt, cp, i0]
        rw [show D.int 1 = nD 1 from rfl, e]
        simp -implicitDefEqProofs
end
end LK
namespace LK
open L2.LW
noncomputable def yA (kn : Kn) (v p : Nat) : Prop := ∃ l, zP kn v = some l ∧ p ∈ l
theorem zc0 (k : Nat) : zP [] k = none := rfl
theorem vE (p : Nat × List Nat) (r : Kn) (k : Nat) : zP (p :: r) k = if p.1 = k then some p.2 else zP r k := by
  unfold zP
  rw [List.find?_cons]
  by_cases h : p.1 = k <;> simp [h]
theorem qq (more v : Nat) : ∀ kn : Kn, zP kn more = none → zP (kn ++ [(more, [])]) v = if v = more then some [] else zP kn v
  | [], _ => by
    rw [List.nil_append, vE, zc0]
    by_cases e : v = more
    · rw [if_pos e, if_pos e.symm]
    · rw [if_neg e, if_neg (fun z => e z.symm)]
  | p :: r, h => by
    rw [vE] at h
    split at h
    · cases h
    rename_i hn
    rw [List.cons_append, vE, vE, qq more v r h]
    by_cases e : p.1 = v
    · rw [if_pos e, if_pos e, if_neg (fun z => hn (e.trans z))]
    · rw [if_neg e, if_neg e]
theorem zc1 (k x v : Nat) : ∀ kn : Kn, zP (jj kn k x) v = (zP kn v).map fun l => if v = k then l ++ [x] else l
  | [] => rfl
  | p :: r => by
    have ih := zc1 k x v r
    show zP ((if p.1 = k then (p.1, p.2 ++ [x]) else p) :: jj r k x) v = _
    rw [vE, vE, ih]
    by_cases e : p.1 = k
    · rw [if_pos e]
      by_cases e2 : p.1 = v
      · rw [if_pos e2, if_pos e2, Option.map_some, if_pos (by rw [← e2]; exact e)]
      · rw [if_neg e2, if_neg e2]
    · rw [if_neg e]
      by_cases e2 : p.1 = v
      · rw [if_pos e2, if_pos e2, Option.map_some, if_neg (by rw [← e2]; exact e)]
      · rw [if_neg e2, if_neg e2]
theorem zk1 {kn : Kn} {more v p : Nat} : yA (wE kn more) v p ↔ yA kn v p := by
  unfold wE
  split
  · exact Iff.rfl
  · rename_i h
    have h : zP kn more = none := by
      cases e : zP kn more with
      | none => rfl
      | some l => rw [e] at h; exact absurd rfl h
    unfold yA
    rw [qq _ _ _ h]
    by_cases e : v = more
    · rw [if_pos e, e, h]
      constructor
      · rintro ⟨l, h1, h2⟩; cases h1; cases h2
      · rintro ⟨l, h1, h2⟩; cases h1
    · rw [if_neg e]
theorem zk2 {kn : Kn} {more : Nat} : (zP (wE kn more) more).isSome = true := by
  unfold wE
  split
  · assumption
  · rename_i h
    rw [qq _ _ _ (by
      cases e : zP kn more with
      | none => rfl
      | some l => rw [e] at h; exact absurd rfl h), if_pos rfl]
    rfl
theorem zk3 {kn : Kn} {more o v p : Nat} (h : (zP kn more).isSome = true) : yA (jk kn more o) v p ↔ yA kn v p ∨ (v = more ∧ p = o) := by
  obtain ⟨l, hl⟩ := Option.isSome_iff_exists.mp h
  unfold jk
  rw [hl]
  show yA (if o ∈ l then kn else jj kn more o) v p ↔ _
  by_cases ho : o ∈ l
  · rw [if_pos ho]
    refine ⟨.inl, ?_⟩
    rintro (z | ⟨rfl, rfl⟩)
    · exact z
    · exact ⟨l, hl, ho⟩
  · rw [if_neg ho]
    unfold yA
    rw [zc1]
    by_cases e : v = more
    · subst e
      rw [hl, Option.map_some, if_pos rfl]
      constructor
      · rintro ⟨m, h1, h2⟩
        cases h1
        rcases List.mem_append.mp h2 with z | z
        · exact .inl ⟨l, rfl, z⟩
        · rw [List.mem_singleton] at z; exact .inr ⟨rfl, z⟩
      · rintro (⟨m, h1, h2⟩ | ⟨_, rfl⟩)
        · cases h1; exact ⟨_, rfl, List.mem_append_left _ h2⟩
        · exact ⟨_, rfl, List.mem_append_right _ (List.mem_singleton.mpr rfl)⟩
    · have : (zP kn v).map (fun l => if v = more then l ++ [o] else l) = zP kn v := by
        cases zP kn v with
        | none => rfl
        | some m => rw [Option.map_some, if_neg e]
      rw [this]
      exact ⟨.inl, fun z => z.elim id fun q => absurd q.1 e⟩
theorem zk4 {zf : Nat} {kn : Kn} {o v p : Nat} : yA (wF zf kn o) v p ↔ yA kn v p ∨ (zf.testBit o = false ∧ v = zf ||| 2 ^ o ∧ p = o) := by
  have hb : (zf >>> o) &&& 1 = 0 ↔ zf.testBit o = false := by
    rw [Nat.and_one_is_mod, Nat.shiftRight_eq_div_pow, Nat.testBit_eq_decide_div_mod_eq]
    simp
  unfold wF
  by_cases h : zf.testBit o = false
  · rw [if_pos (hb.mpr h), zk3 zk2, zk1]
    simp [h]
  · rw [if_neg (fun z => h (hb.mp z))]
    simp [h]
theorem zc2 {zf v p : Nat} : ∀ (row : List Nat) (kn : Kn), yA (row.foldl (wF zf) kn) v p ↔ yA kn v p ∨ (p ∈ row ∧ zf.testBit p = false ∧ v = zf ||| 2 ^ p)
  | [], kn => by simp
  | o :: r, kn => by
    rw [List.foldl_cons, zc2 r, zk4]
    constructor
    · rintro ((z | ⟨h1, h2, rfl⟩) | ⟨h1, h2, h3⟩)
      · exact .inl z
      · exact .inr ⟨List.mem_cons_self, h1, h2⟩
      · exact .inr ⟨List.mem_cons_of_mem _ h1, h2, h3⟩
    · rintro (z | ⟨h1, h2, h3⟩)
      · exact .inl (.inl z)
      · rcases List.mem_cons.mp h1 with rfl | h1
        · exact .inl (.inr ⟨h2, h3, rfl⟩)
        · exact .inr ⟨h1, h2, h3⟩
theorem zc3 {tb : List (List Nat)} {zf v p : Nat} : ∀ (hs : List Nat) (kn : Kn), yA (hs.foldl (vw tb zf) kn) v p ↔ yA kn v p ∨ ∃ h ∈ hs, p ∈ tb.getD h [] ∧ zf.testBit p = false ∧ v = zf ||| 2 ^ p
  | [], kn => by simp
  | h :: r, kn => by
    rw [List.foldl_cons, zc3 r]
    unfold vw
    rw [zc2]
    constructor
    · rintro ((z | z) | ⟨h1, h2, h3⟩)
      · exact .inl z
      · exact .inr ⟨h, List.mem_cons_self, z⟩
      · exact .inr ⟨h1, List.mem_cons_of_mem _ h2, h3⟩
    · rintro (z | ⟨h1, h2, h3⟩)
      · exact .inl (.inl z)
      · rcases List.mem_cons.mp h2 with rfl | h2
        · exact .inl (.inr h3)
        · exact .inr ⟨h1, h2, h3⟩
theorem zk5 {tb : List (List Nat)} {zf v p : Nat} {kn : Kn} : yA (wX tb kn zf) v p ↔ yA kn v p ∨ ∃ h, yA kn zf h ∧ p ∈ tb.getD h [] ∧ zf.testBit p = false ∧ v = zf ||| 2 ^ p := by
  unfold wX
  rw [zc3]
  refine or_congr Iff.rfl ⟨?_, ?_⟩
  · rintro ⟨h, h1, h2⟩
    refine ⟨h, ?_, h2⟩
    unfold yA
    cases e : zP kn zf with
    | none => rw [e] at h1; cases h1
    | some l => rw [e] at h1; exact ⟨l, rfl, h1⟩
  · rintro ⟨h, ⟨l, h1, h2⟩, h3⟩
    exact ⟨h, by rw [h1]; exact h2, h3⟩
theorem zk6 {ss : List Nat} {v p : Nat} : yA (wp ss) v p ↔ p ∈ ss ∧ v = 2 ^ p := by
  unfold yA wp
  induction ss with
  | nil => simp [zc0]
  | cons k r ih =>
    rw [List.map_cons, vE]
    by_cases e : 2 ^ k = v
    · rw [if_pos e]
      constructor
      · rintro ⟨l, h1, h2⟩
        cases h1
        rw [List.mem_singleton] at h2
        exact ⟨by rw [h2]; exact List.mem_cons_self, by rw [h2]; exact e.symm⟩
      · rintro ⟨h1, h2⟩
        refine ⟨_, rfl, ?_⟩
        rw [List.mem_singleton]
        exact kF (h2.symm.trans e.symm)
    · rw [if_neg e, ih]
      constructor
      · rintro ⟨h1, h2⟩; exact ⟨List.mem_cons_of_mem _ h1, h2⟩
      · rintro ⟨h1, h2⟩
        rcases List.mem_cons.mp h1 with rfl | h1
        · exact absurd h2.symm e
        · exact ⟨h1, h2⟩
theorem qr (p : Nat) (L : List Nat) (h : p ∉ L) : zf (p :: L) = zf L ||| 2 ^ p := by
  apply Nat.eq_of_testBit_eq
  intro i
  rw [Bool.eq_iff_iff, yV, Nat.testBit_or, Bool.or_eq_true, yV, Nat.testBit_two_pow, decide_eq_true_iff, List.mem_cons]
  constructor
  · rintro (z | z)
    · exact .inr z.symm
    · exact .inl z
  · rintro (z | z)
    · exact .inr z
    · exact .inl z.symm
theorem zk7 {p : Nat} {L : List Nat} (h : p ∉ L) : zf L < zf (p :: L) := by
  have h1 : zf L ≤ zf (p :: L) := by rw [qr p L h]; exact Nat.left_le_or
  rcases Nat.lt_or_ge (zf L) (zf (p :: L)) with z | z
  · exact z
  · have e : zf L = zf (p :: L) := Nat.le_antisymm h1 z
    have := (yV (i := p) (L := p :: L)).mpr List.mem_cons_self
    rw [← e] at this
    exact absurd (yV.mp this) h
theorem zc4 {N : Nat} {tb : List (List Nat)} {nm : Nat → Nat} {ss : List Nat} {st : Nat} (hn : ∀ h p, h < N → (p ∈ tb.getD h [] ↔ p < N ∧ (nm p).testBit h = true)) (hs : ∀ p, p ∈ ss ↔ p < N ∧ st.testBit p = true) :
    ∀ (i : Nat) (v p : Nat), yA (((List.range i).map (1 + ·)).foldl (wX tb) (wp ss)) v p ↔ ∃ L, Pth N nm st (p :: L) ∧ zf (p :: L) = v ∧ zf L ≤ i
  | 0, v, p => by
    show yA (wp ss) v p ↔ _
    rw [zk6, hs]
    constructor
    · rintro ⟨⟨h1, h2⟩, rfl⟩
      exact ⟨[], .one h1 h2, by simp [zf], Nat.le_refl _⟩
    · rintro ⟨L, h1, h2, h3⟩
      cases L with
      | nil =>
        cases h1 with
        | one h s => exact ⟨⟨h, s⟩, by rw [← h2]; simp [zf]⟩
      | cons q L =>
        have := yV.mpr (List.mem_cons_self (a := q) (l := L))
        have z : zf (q :: L) = 0 := by omega
        rw [z] at this
        simp at this
  | i + 1, v, p => by
    have ih := zc4 hn hs i
    rw [zb3, zk5, ih]
    constructor
    · rintro (⟨L, h1, h2, h3⟩ | ⟨h, h1, h2, h3, h4⟩)
      · exact ⟨L, h1, h2, by omega⟩
      · obtain ⟨L, g1, g2, g3⟩ := (ih _ _).mp h1
        have hh := g1.lt h List.mem_cons_self
        obtain ⟨hp, hb⟩ := (hn h p hh).mp h2
        have hnew : p ∉ h :: L := fun z => by
          have := yV.mpr z
          rw [g2, h3] at this
          cases this
        refine ⟨h :: L, .more g1 hp hnew hb, ?_, by rw [g2]; omega⟩
        rw [qr p _ hnew, g2, h4]
    · rintro ⟨L, h1, h2, h3⟩
      by_cases hi : zf L ≤ i
      · exact .inl ⟨L, h1, h2, hi⟩
      · have hm : zf L = 1 + i := by omega
        cases h1 with
        | one h s => simp [zf] at hm; omega
        | more h lt new nr =>
          rename_i q L
          have hq := h.lt q List.mem_cons_self
          have ndq := h.nd
          rw [List.nodup_cons] at ndq
          refine .inr ⟨q, (ih _ _).mpr ⟨L, h, hm, ?_⟩, (hn q p hq).mpr ⟨lt, nr⟩, ?_, ?_⟩
          · have := zk7 ndq.1
            omega
          · rw [← hm]
            cases e : (zf (q :: L)).testBit p with
            | false => rfl
            | true => exact absurd (yV.mp e) new
          · rw [← hm, ← h2, qr p _ new]
end LK
namespace LK
open L2.LW
section
variable {f : List zd} {l : zd}
theorem zc5 {N : Nat} {nm : Nat → Nat} {st : Nat} {L : List Nat} (h : Pth N nm st L) : (∀ i (hi : i + 1 < L.length), (nm L[i]).testBit L[i + 1] = true) ∧ ∀ z, L.getLast? = some z → st.testBit z = true := by
  induction h with
  | one h s => exact ⟨fun i hi => by simp at hi, fun z hz => by simp at hz; rw [← hz]; exact s⟩
  | more h lt new nr ih =>
    refine ⟨fun i hi => ?_, fun z hz => ih.2 z (by rw [List.getLast?_cons_cons] at hz; exact hz)⟩
    cases i with
    | zero => exact nr
    | succ i => exact ih.1 i (by simpa using hi)
theorem zk8 {N : Nat} {L : List Nat} (nd : L.Nodup) (lt : ∀ p ∈ L, p < N) (h : zf L = 2 ^ N - 1) : L.length = N := by
  have pq : L.Perm (List.range N) := by
    rw [List.perm_ext_iff_of_nodup nd List.nodup_range]
    intro x
    rw [List.mem_range]
    refine ⟨lt x, fun hx => yV.mp ?_⟩
    rw [h, vC, decide_eq_true hx]
  have := pq.length_eq
  rw [List.length_range] at this
  exact this
theorem zc6 {st en p : Nat} {L : List Nat} (h : Pth f.length (fun q => (yr f l).getD q 0) st (p :: L)) (hm : zf (p :: L) = 2 ^ f.length - 1) (he : en.testBit p = true) : Run f.length (yr f l) st en (p :: L) :=
  ⟨zk8 h.nd h.lt hm, h.lt, h.nd, (zc5 h).1, fun z hz => by simp at hz; rw [← hz]; exact he, (zc5 h).2⟩
noncomputable def xF (f : List zd) (l : zd) : List (List Nat) := (List.range f.length).map fun k => (List.range f.length).filter fun o => zO l (f.getD k (0, 0)) (f.getD o (0, 0))
noncomputable def yB (f : List zd) (l : zd) (ss : List Nat) : List Nat := (zP (xS (xF f l) ss f.length) (2 ^ f.length - 1)).getD []
theorem Xo {ss : List Nat} {st : Nat} (hs : ∀ p, p ∈ ss ↔ p < f.length ∧ st.testBit p = true) (p : Nat) : p ∈ yB f l ss ↔ ∃ L, Pth f.length (fun q => (yr f l).getD q 0) st (p :: L) ∧ zf (p :: L) = 2 ^ f.length - 1 := by
  have hn : ∀ h p, h < f.length → (p ∈ (xF f l).getD h [] ↔ p < f.length ∧ ((fun q => (yr f l).getD q 0) p).testBit h = true) := fun h p hh => by
    unfold xF
    rw [List.getD_eq_getElem?_getD, List.getElem?_map, List.getElem?_eq_getElem (by rw [List.length_range]; exact hh), List.getElem_range]
    show p ∈ (List.range f.length).filter _ ↔ _
    rw [List.mem_filter, List.mem_range]
    constructor
    · rintro ⟨h1, h2⟩; exact ⟨h1, (Xm h1).mpr ⟨hh, by rw [Zv]; exact h2⟩⟩
    · rintro ⟨h1, h2⟩; exact ⟨h1, by rw [Zv]; exact ((Xm h1).mp h2).2⟩
  have main := zc4 hn hs (2 ^ f.length - 1) (2 ^ f.length - 1) p
  have e1 : p ∈ yB f l ss ↔ yA (xS (xF f l) ss f.length) (2 ^ f.length - 1) p := by
    unfold yB yA
    cases zP (xS (xF f l) ss f.length) (2 ^ f.length - 1) with
    | none => simp
    | some m => simp
  rw [e1]
  refine main.trans ⟨fun ⟨L, h1, h2, _⟩ => ⟨L, h1, h2⟩, fun ⟨L, h1, h2⟩ => ⟨L, h1, h2, ?_⟩⟩
  have := qk (N := f.length) (L := L) fun q hq => h1.lt q (List.mem_cons_of_mem _ hq)
  omega
theorem zk9 (nd : f.Nodup) (h1 : 1 ≤ f.length) : yB f l (List.range f.length) ≠ [] ↔ ∃ w, HW f l w := by
  have hs : ∀ p, p ∈ List.range f.length ↔ p < f.length ∧ (2 ^ f.length - 1).testBit p = true := fun p => by rw [List.mem_range, vC, decide_eq_true_iff]; omega
  constructor
  · intro h
    obtain ⟨p, hp⟩ := List.exists_mem_of_ne_nil _ h
    obtain ⟨L, h2, h3⟩ := (Xo hs p).mp hp
    exact ⟨_, Jf nd (zc6 (en := 2 ^ f.length - 1) h2 h3 (by rw [vC, decide_eq_true_iff]; exact h2.lt p List.mem_cons_self))⟩
  · rintro ⟨w, hw⟩ z
    obtain ⟨qs, q1, q2, q3, q4, q5⟩ := Jg nd hw
    cases qs with
    | nil => simp at q2; omega
    | cons p L =>
      have pt : Pth f.length (fun q => (yr f l).getD q 0) (2 ^ f.length - 1) (p :: L) := Xn (by simp) q4 q3 q5 fun z hz => by
        rw [vC, decide_eq_true_iff]
        exact q3 z (List.mem_of_getLast? hz)
      have := (Xo hs p).mpr ⟨L, pt, qo q4 q3 q2⟩
      rw [z] at this
      cases this
theorem zla (nd : f.Nodup) (h1 : 1 ≤ f.length) : (∃ p ∈ yB f l [0], zO l (f.getD p (0, 0)) (f.getD 0 (0, 0)) = true) ↔ ∃ w, HR f l w := by
  have b1 : ∀ z, (1 : Nat).testBit z = true ↔ z = 0 := fun z => by
    have := Nat.testBit_two_pow (n := 0) (m := z)
    rw [Nat.pow_zero] at this
    rw [this, decide_eq_true_iff]
    exact eq_comm
  have hs : ∀ p, p ∈ [0] ↔ p < f.length ∧ (1 : Nat).testBit p = true := fun p => by rw [List.mem_singleton, b1]; omega
  constructor
  · rintro ⟨p, hp, hn⟩
    obtain ⟨L, h2, h3⟩ := (Xo hs p).mp hp
    have r := zc6 (en := 2 ^ f.length - 1) h2 h3 (by rw [vC, decide_eq_true_iff]; exact h2.lt p List.mem_cons_self)
    refine ⟨_, Jf nd r, fun a b ha hb => ?_⟩
    unfold zY at ha hb
    rw [List.getLast?_map, jo2] at hb
    obtain ⟨y, hy, rfl⟩ := hb
    rw [List.map_cons, List.head?_cons] at ha
    cases ha
    rw [(b1 y).mp (r.last y hy)]
    exact hn
  · rintro ⟨w, hw⟩
    have c0 : f.getD 0 (0, 0) ∈ f := by
      rw [List.getD_eq_getElem?_getD, List.getElem?_eq_getElem (by omega : 0 < f.length)]
      exact List.getElem_mem _
    obtain ⟨w', hw', hla⟩ := hw.turn c0
    obtain ⟨qs, q1, q2, q3, q4, q5⟩ := Jg nd hw'.toHW
    cases qs with
    | nil => simp at q2; omega
    | cons p L =>
      have ls : ∀ z, (p :: L).getLast? = some z → z = 0 := fun z hz => by
        have h1 : w'.getLast? = some (f.getD z (0, 0)) := by rw [← q1]; unfold zY; rw [List.getLast?_map, hz]; rfl
        rw [hla] at h1
        have h2 : f.getD 0 (0, 0) = f.getD z (0, 0) := by simpa using h1
        have zl := q3 z (List.mem_of_getLast? hz)
        rw [List.getD_eq_getElem?_getD, List.getD_eq_getElem?_getD, List.getElem?_eq_getElem zl, List.getElem?_eq_getElem (by omega : 0 < f.length)] at h2
        exact ((List.getElem_inj nd).mp h2).symm
      have pt : Pth f.length (fun q => (yr f l).getD q 0) 1 (p :: L) := Xn (by simp) q4 q3 q5 fun z hz => (b1 z).mpr (ls z hz)
      refine ⟨p, (Xo hs p).mpr ⟨L, pt, qo q4 q3 q2⟩, ?_⟩
      exact hw'.ring _ _ (by rw [← q1]; rfl) hla
theorem qt : ∀ ns : List Nat, nats? (zQ ns) = some ns
  | [] => rfl
  | n :: r => by
    show (if 0 ≤ (n : Int) then (nats? (zQ r)).map ((n : Int).toNat :: ·) else none) = _
    rw [if_pos (by omega), qt r]
    simp
theorem zc7 : ∀ t : List (List Nat), natss? (t.map fun r => D.lst (zQ r)) = some t
  | [] => rfl
  | n :: r => by
    show (nats? (zQ n)).bind (fun ns => (natss? (r.map fun r => D.lst (zQ r))).map (ns :: ·)) = _
    rw [qt, zc7 r]
    rfl
theorem zc8 (k : Nat) : ∀ kn : Kn, dget (kn.map fun p => D.int (p.1 : Int)) (kn.map fun p => D.lst (zQ p.2)) (nD k) = (zP kn k).map fun m => D.lst (zQ m)
  | [] => rfl
  | p :: r => by
    have ih := zc8 k r
    unfold dget yo at ih ⊢
    rw [List.map_cons, List.map_cons, List.findIdx?_cons, show zE (D.int (p.1 : Int)) (nD k) = decide (p.1 = k) from Jb, vE]
    by_cases h : p.1 = k
    · simp [h]
    · rw [if_neg h, ← ih]
      simp only [h, decide_false, Bool.false_eq_true, if_false]
      cases (List.findIdx? (fun x => zE x (nD k)) (r.map fun p => D.int (p.1 : Int))) <;> simp
theorem zlb (k : Nat) (kn : Kn) : ze .dgetL [vx kn, nD k, .lst []] = some (.val (.lst (zQ ((zP kn k).getD [])))) := by
  have e : ze .dgetL [vx kn, nD k, .lst []] = match dget (kn.map fun p => D.int (p.1 : Int)) (kn.map fun p => D.lst (zQ p.2)) (nD k) with
      | some (.lst l) => some (.val (.lst l))
      | none => some (.val (.lst []))
      | _ => none := rfl
  rw [e, zc8]
  cases zP kn k with
  | none => rfl
  | some v => rfl
@[simp] theorem zsD {fa : Nat → List D → Option Ans} {fuel : Nat} {ρ : Env} : zB fa fuel .ends ρ = Ye ρ := rfl
theorem zlc : ∀ r ∈ xF f l, ∀ k ∈ r, k < f.length := fun r hr k hk => by
  obtain ⟨j, _, rfl⟩ := List.mem_map.mp hr
  exact List.mem_range.mp (List.mem_filter.mp hk).1
theorem zld {F L : D} (h10 : f.length ≤ 10) {ss : List Nat} (hs : ∀ k ∈ ss, k < f.length) (nd : ss.Nodup) :
    Ye [some (.val F), some (.val L), some (.val (.lst (zQ ss))), some (.val (nD f.length)), some (.obj true (.lst ((xF f l).map fun r => D.lst (zQ r)))), none, none, none, none, none, none] =
      some (.nx, [some (.val F), none, none, some (.val (nD f.length)), none, some (.val (vx (xS (xF f l) ss f.length))), none, none, none, none, none]) := by
  show (if (0 : Int) ≤ (f.length : Int) ∧ (f.length : Int) ≤ 10 then (nats? (zQ ss)).bind fun ss => (natss? ((xF f l).map fun r => D.lst (zQ r))).bind fun t =>
      if (ss.all fun k => decide (k < (f.length : Int).toNat)) && decide ss.Nodup && decide (t.length = (f.length : Int).toNat) && (t.all fun r => r.all fun k => decide (k < (f.length : Int).toNat)) then
        some (Fl.nx, ([some (SV.val F), none, none, some (SV.val (.int (f.length : Int))), none, some (SV.val (vx (xS t ss (f.length : Int).toNat))), none, none, none, none, none] : Env)) else none else none) = _
  rw [if_pos (by omega), qt, zc7]
  simp only [Option.bind_some, Int.toNat_natCast]
  rw [if_pos]
  · rfl
  · simp only [Bool.and_eq_true, decide_eq_true_eq, List.all_eq_true]
    exact ⟨⟨⟨hs, nd⟩, by unfold xF; simp⟩, zlc⟩
theorem zle (n : Nat) (h10 : f.length ≤ 10) {ss : List Nat} (hs : ∀ k ∈ ss, k < f.length) (nd : ss.Nodup) (he : ∀ p ∈ yB f l ss, p < f.length) (hel : (yB f l ss).length ≤ 1000) :
    zG U zp (n + 2) 75 [fD f, cD l, .lst (zQ ss)] = some (.obj true (lD (zY f (yB f l ss)))) := by
  have hl' := xE
  have ln : ze .len [fD f] = some (.val (nD f.length)) := by rw [xZ]; rfl
  have tc : ∀ ρ : Env, ρ[0]? = some (some (.val (fD f))) → ρ[1]? = some (some (.val (cD l))) → ρ[3]? = some (some (.val (nD f.length))) →
      zg (zG U zp (n + 1)) (.comp true (.cons (.var 3) .nil) (.bl true) (.comp true (.cons (.var 4) .nil) (.call 17 (.cons (.var 3) (.cons (.prim .idx (.cons (.var 2) (.cons (.var 1) .nil))) (.cons (.prim .idx (.cons (.var 2) (.cons (.var 0) .nil))) .nil)))) (.var 0))) ρ = some (.obj true (.lst ((xF f l).map fun r => D.lst (zQ r)))) := by
    intro ρ h0 h1 h3
    rw [Zr (rs := [.val (nD f.length)]) (xs := List.range f.length) (f := nD) (fun k => D.lst (zQ ((List.range f.length).filter fun o => zO l (f.getD k (0, 0)) (f.getD o (0, 0)))))]
    · unfold xF; rw [List.map_map]; rfl
    · simp [h3]
    · exact Jd (by omega)
    · rw [List.length_range]; omega
    · intro k hk
      rw [List.mem_range] at hk
      rw [VT (rs := [.val (nD f.length)]) (xs := List.range f.length) (f := nD) (fun o => zO l (f.getD k (0, 0)) (f.getD o (0, 0))) nD]
      · rfl
      · simp [h3]
      · exact Jd (by omega)
      · rw [List.length_range]; omega
      · intro o ho
        rw [List.mem_range] at ho
        have i1 := Xl (f := f) hk
        have i2 := Xl (f := f) ho
        generalize f.getD k (0, 0) = u at *
        generalize f.getD o (0, 0) = v at *
        have a3 := Xh n l u v
        simp [h0, h1, i1, i2, a3]
      · intro o _ _; simp
  have i1 := jw (n := f.length) (by omega)
  have i2 : ze .sub [nD (2 ^ f.length), .int 1] = some (.val (nD (2 ^ f.length - 1))) := by
    show zI (((2 ^ f.length : Nat) : Int) - 1) = _
    have : ((2 ^ f.length : Nat) : Int) - 1 = ((2 ^ f.length - 1 : Nat) : Int) := by have := Nat.two_pow_pos f.length; omega
    rw [this]; rfl
  have en := zld (F := fD f) (L := cD l) (l := l) h10 hs nd
  have dg := zlb (2 ^ f.length - 1) (xS (xF f l) ss f.length)
  have rc : ∀ ρ : Env, ρ[0]? = some (some (.val (fD f))) → ρ[3]? = some (some (.val (nD f.length))) → ρ[5]? = some (some (.val (vx (xS (xF f l) ss f.length)))) →
      zg (zG U zp (n + 1)) (.comp false (.cons (.prim .dgetL (.cons (.var 5) (.cons (.prim .sub (.cons (.prim .shl (.cons (.int 1) (.cons (.var 3) .nil))) (.cons (.int 1) .nil))) (.cons (.lst .nil) .nil)))) .nil) (.bl true) (.prim .idx (.cons (.var 1) (.cons (.var 0) .nil)))) ρ = some (.obj true (lD (zY f (yB f l ss)))) := by
    intro ρ h0 h3 h5
    rw [Zr (rs := [.val (.lst (zQ (yB f l ss)))]) (xs := yB f l ss) (f := nD) (fun k => cD (f.getD k (0, 0)))]
    · unfold zY lD; rw [List.map_map]; rfl
    · simp [h3, h5, i1, i2, dg]; rfl
    · rfl
    · omega
    · intro k hk
      have i3 := Xl (f := f) (he k hk)
      generalize f.getD k (0, 0) = u at *
      simp [h0, i3]
  rw [yq zkg rfl]
  simp -implicitDefEqProofs only [Xd]
  simp -implicitDefEqProofs [ln, tc, en, rc]
end
end LK
namespace LK
open L2.LW
structure KD (kn : Kn) : Prop where
  k : (kn.map fun p => p.1).Nodup
  l : ∀ p ∈ kn, p.2.Nodup
theorem zlf {kn : Kn} (h : (kn.map fun p => p.1).Nodup) {p : Nat × List Nat} (hp : p ∈ kn) : zP kn p.1 = some p.2 := by
  induction kn with
  | nil => cases hp
  | cons q r ih =>
    rw [List.map_cons, List.nodup_cons] at h
    rw [vE]
    rcases List.mem_cons.mp hp with e | hp
    · rw [if_pos (by rw [e]), e]
    · rw [if_neg (fun z => h.1 (List.mem_map.mpr ⟨p, hp, z.symm⟩))]
      exact ih h.2 hp
theorem zlg {kn : Kn} {k : Nat} (h : zP kn k = none) : k ∉ kn.map fun p => p.1 := fun z => by
  obtain ⟨p, hp, e⟩ := List.mem_map.mp z
  unfold zP at h
  rw [Option.map_eq_none_iff] at h
  have := List.find?_eq_none.mp h p hp
  simp [e] at this
theorem KD.step {kn : Kn} (h : KD kn) (zf o : Nat) : KD (wF zf kn o) := by
  unfold wF
  split
  · have h1 : KD (wE kn (zf ||| 2 ^ o)) := by
      unfold wE
      split
      · exact h
      · rename_i hn
        have hn : zP kn (zf ||| 2 ^ o) = none := by
          cases e : zP kn (zf ||| 2 ^ o) with
          | none => rfl
          | some l => rw [e] at hn; exact absurd rfl hn
        refine ⟨?_, fun p hp => ?_⟩
        · rw [List.map_append, List.nodup_append]
          refine ⟨h.k, by simp, fun a ha b hb e => ?_⟩
          simp only [List.map_cons, List.map_nil, List.mem_singleton] at hb
          rw [e, hb] at ha
          exact zlg hn ha
        · rcases List.mem_append.mp hp with hp | hp
          · exact h.l p hp
          · rw [List.mem_singleton] at hp
            rw [hp]; exact List.nodup_nil
    generalize wE kn (zf ||| 2 ^ o) = k2 at h1
    unfold jk
    split
    · exact h1
    · rename_i hn
      refine ⟨?_, fun p hp => ?_⟩
      · unfold jj
        rw [List.map_map]
        have : (k2.map ((fun p => p.1) ∘ fun p => if p.1 = zf ||| 2 ^ o then (p.1, p.2 ++ [o]) else p)) = k2.map fun p => p.1 := List.map_congr_left fun s _ => by simp only [Function.comp]; split <;> rfl
        rw [this]; exact h1.k
      · obtain ⟨q, hq, rfl⟩ := List.mem_map.mp hp
        split
        · rename_i e
          have g := zlf h1.k hq
          rw [e] at g
          rw [g] at hn
          refine List.nodup_append.mpr ⟨h1.l q hq, by simp, fun a ha b hb z => ?_⟩
          rw [List.mem_singleton] at hb
          rw [z, hb] at ha
          exact hn ha
        · exact h1.l q hq
  · exact h
theorem Jh {α β : Type} {P : β → Prop} {f : β → α → β} (st : ∀ b a, P b → P (f b a)) : ∀ (l : List α) (b : β), P b → P (l.foldl f b)
  | [], _, h => h
  | a :: r, b, h => Jh st r (f b a) (st b a h)
theorem KD.ends {tb : List (List Nat)} {ss : List Nat} (h : ss.Nodup) (m : Nat) : KD (xS tb ss m) := by
  unfold xS
  refine Jh (fun kn zf h => ?_) _ _ ?_
  · unfold wX
    refine Jh (fun kn here h => ?_) _ _ h
    unfold vw
    exact Jh (fun kn o h => h.step zf o) _ _ h
  · refine ⟨?_, fun p hp => ?_⟩
    · unfold wp
      rw [List.map_map]
      unfold List.Nodup
      rw [List.pairwise_map]
      exact h.imp fun hab e => hab (kF e)
    · obtain ⟨k, _, rfl⟩ := List.mem_map.mp hp
      simp
section
variable {f : List zd} {l : zd}
theorem zlh {ss : List Nat} (h : ss.Nodup) : (yB f l ss).Nodup := by
  unfold yB
  cases e : zP (xS (xF f l) ss f.length) (2 ^ f.length - 1) with
  | none => exact List.nodup_nil
  | some m =>
    unfold zP at e
    rw [jo2] at e
    obtain ⟨p, hp, rfl⟩ := e
    exact (KD.ends h _).l p (List.mem_of_find?_eq_some hp)
theorem zc9 (n : Nat) (h10 : f.length ≤ 10) {ss : List Nat} {st : Nat} (hs : ∀ p, p ∈ ss ↔ p < f.length ∧ st.testBit p = true) (nd : ss.Nodup) :
    (yB f l ss).length ≤ 1000 ∧ zG U zp (n + 2) 75 [fD f, cD l, .lst (zQ ss)] = some (.obj true (lD (zY f (yB f l ss)))) := by
  have he : ∀ p ∈ yB f l ss, p < f.length := fun p hp => by
    obtain ⟨L, h1, _⟩ := (Xo hs p).mp hp
    exact h1.lt p List.mem_cons_self
  have hl := jv (m := List.range f.length) (zlh (f := f) (l := l) nd) fun p hp => List.mem_range.mpr (he p hp)
  rw [List.length_range] at hl
  have hl2 : (yB f l ss).length ≤ 1000 := by omega
  exact ⟨hl2, zle n h10 (fun k hk => ((hs k).mp hk).1) nd he hl2⟩
theorem qu {w : List zd} {k : Nat} (h : k < w.length) : ze .idx [lD w, .int (k : Int)] = some (.val (cD w[k])) := by
  show (atI (w.map cD) (k : Int)).map SV.val = _
  rw [atI_nat (by rw [List.length_map]; exact h), List.getElem_map]
  rfl
theorem Ji (n : Nat) (hf : OkF f) {w : List zd} (hw : HW f l w) : zG U zp (n + 2) 74 [fD f, cD l, lD w] = some (.val (.bl true)) := by
  have hl' := xE
  have hlen := hf.len
  have nd := OkF.nodup hf.rise
  have wl := hw.pm.length_eq
  have wn : w.Nodup := hw.pm.nodup_iff.mpr nd
  have h0 : w ≠ [] := fun z => by
    rw [z] at wl
    have := hf.ne
    cases f <;> simp_all
  have so : ze .sorted [lD w] = some (.obj true (lD f)) := zkJ h0 wn (by omega) hf.rise fun x => hw.pm.mem_iff
  have tl : ze .toList [fD f] = some (.obj true (lD f)) := rfl
  have lw : ze .len [lD w] = some (.val (.int (w.length : Int))) := by show zI ((w.map cD).length : Int) = _; rw [List.length_map]; rfl
  have ne := qd (a := f) (b := f)
  have hl7 : wj .list (lD w) = true := rfl
  have eqn : ze .eq [.lst [], .lst []] = some (.val (.bl true)) := rfl
  have cp : ∀ ρ : Env, ρ[1]? = some (some (.val (cD l))) → ρ[2]? = some (some (.val (lD w))) →
      zg (zG U zp (n + 1)) (.comp true (.cons (.int 1) (.cons (.prim .len (.cons (.var 2) .nil)) .nil)) (.not (.call 17 (.cons (.var 2) (.cons (.prim .idx (.cons (.var 3) (.cons (.prim .sub (.cons (.var 0) (.cons (.int 1) .nil))) .nil))) (.cons (.prim .idx (.cons (.var 3) (.cons (.var 0) .nil))) .nil))))) (.var 0)) ρ = some (.obj true (.lst [])) := by
    intro ρ h1 h2
    rw [VT (rs := [.val (.int 1), .val (.int (w.length : Int))]) (xs := (List.range ((w.length : Int) - 1).toNat).map fun (k : Nat) => (1 + (k : Int))) (f := D.int) (fun _ => false) D.int]
    · simp
    · simp [h2, lw]
    · rw [zct ⟨jt (by decide) (by decide), jt (by omega) (by omega)⟩, List.map_map]; rfl
    · simp; omega
    · intro x hx
      obtain ⟨k, hk, rfl⟩ := List.mem_map.mp hx
      rw [List.mem_range] at hk
      have a1 := qu (w := w) (k := k) (by omega)
      have a2 := qu (w := w) (k := k + 1) (by omega)
      have a3 := Xh n l (w[k]'(by omega)) (w[k + 1]'(by omega))
      rw [hw.step k (by omega)] at a3
      have ec : ((k + 1 : Nat) : Int) = 1 + (k : Int) := by omega
      rw [ec] at a2
      have es : (1 : Int) + (k : Int) - 1 = (k : Int) := by omega
      simp [h1, h2, es, a1, a2, a3]
    · intro x _ h; cases h
  rw [yq zkf rfl]
  simp -implicitDefEqProofs only [Xc]
  simp -implicitDefEqProofs [hl7, so, tl, ne, cp, eqn]
end
end LK
namespace LK
open L2.LW
theorem Xp {a b : Bool} : ze .eq [.bl a, .bl b] = some (.val (.bl (a == b))) := by rw [YF rfl rfl, zE]
theorem jy {w : List zd} : wT (lD w) = false := rfl
theorem zli {w : List zd} {b : zd} (h : w.getLast? = some b) : ze .idx [lD w, .int (-1)] = some (.val (cD b)) := by
  obtain ⟨v, rfl⟩ := List.getLast?_eq_some_iff.mp h
  show (atI ((v ++ [b]).map cD) (-1)).map SV.val = _
  unfold atI ixN
  rw [if_neg (by decide), if_pos (by simp; omega)]
  simp
  have : (-1 + ((v.length : Int) + 1)).toNat = v.length := by omega
  rw [this]
  simp
theorem zlj {f : List zd} {es : List Nat} : zY f es = [] ↔ es = [] := by unfold zY; exact List.map_eq_nil_iff
theorem Jj {f : List zd} {l : zd} (n : Nat) (hf : OkF f) (hl : OkL l) (h16 : f.length ≤ 16) :
    (∃ w a b, HR f l w ∧ 3 ≤ f.length ∧ w.length = f.length ∧ zG U zp (n + 5) 68 [fD f, cD l] = some (.obj true (lD w)) ∧ ze .idx [lD w, .int 0] = some (.val (cD a)) ∧ ze .idx [lD w, .int (-1)] = some (.val (cD b)) ∧ zO l a b = true) ∨
    (¬ (2 < f.length ∧ ∃ w, HR f l w) ∧ zG U zp (n + 5) 68 [fD f, cD l] = some (.val .non)) := by
  rcases zk0 n hf hl h16 with ⟨h, e⟩ | ⟨h, w, hw, e⟩ | ⟨h, hw, e⟩
  · exact .inr ⟨fun z => by omega, e⟩
  · refine .inl ?_
    have wl := hw.pm.length_eq
    cases w with
    | nil => simp at wl; omega
    | cons a r =>
      cases hz : (a :: r).getLast? with
      | none => rw [List.getLast?_eq_none_iff] at hz; cases hz
      | some b => exact ⟨a :: r, a, b, hw, h, wl, e, qu (w := a :: r) (k := 0) (by simp), zli hz, hw.ring a b rfl hz⟩
  · exact .inr ⟨fun z => z.2.elim hw, e⟩
theorem zlk (n : Nat) (ns : List Int) : zG U zp (n + 32) 76 [sD ns] = some (.val (.bl true)) := by
  have hl' := xE
  have c0 := Zw (n + 30) ns (k := 0) (by decide)
  have c1 := Zw (n + 30) ns (k := 1) (by decide)
  obtain ⟨l, hl, e2⟩ := zkA (n + 30) (vg ns 0)
  have m4 : ze .mod [.int (vg ns 1), .int 4] = some (.val (.int (vg ns 1 % 4))) := YD (by decide)
  rw [yq zkh rfl]
  simp -implicitDefEqProofs only [Xe]
  by_cases hc : vg ns 1 % 4 = 3
  · obtain ⟨f, hf, h16, e1⟩ := zcx (n + 29) ns (at_ := 2) (most := 16) (by decide) (by decide) (by decide)
    rcases zcX (n + 26) hf hl (by omega) with ⟨w, hw, ew⟩ | ⟨hw, ew⟩
    · have iw := Ji (n + 29) hf hw
      rcases Jj (n + 26) hf hl (by omega) with ⟨r, a, b, hr, h3, rl, er, i0, i1, na⟩ | ⟨hr, er⟩
      · have ir := Ji (n + 29) hf hr.toHW
        have nr := Xh (n + 30) l a b
        rw [na] at nr
        have lr : ze .len [lD r] = some (.val (.int (r.length : Int))) := by show zI ((r.map cD).length : Int) = _; rw [List.length_map]; rfl
        have lt : ¬ ((r.length : Int) < 3) := by omega
        simp -implicitDefEqProofs [c0, c1, e1, e2, m4, hc, ew, er, iw, ir, nr, i0, i1, lr, lt, jy]
      · simp -implicitDefEqProofs [c0, c1, e1, e2, m4, hc, ew, er, iw, jy]
    · rcases Jj (n + 26) hf hl (by omega) with ⟨r, a, b, hr, h3, rl, er, i0, i1, na⟩ | ⟨hr, er⟩
      · exact absurd hr.toHW (hw r)
      · simp -implicitDefEqProofs [c0, c1, e1, e2, m4, hc, ew, er]
  · obtain ⟨f, hf, h10, e1⟩ := zcx (n + 29) ns (at_ := 2) (most := 10) (by decide) (by decide) (by decide)
    have nd := OkF.nodup hf.rise
    have h1 : 1 ≤ f.length := by have := hf.ne; cases f <;> simp_all
    have f10 : f.length ≤ 10 := by omega
    have b1 : ∀ z, (1 : Nat).testBit z = true ↔ z = 0 := fun z => by
      have := Nat.testBit_two_pow (n := 0) (m := z)
      rw [Nat.pow_zero] at this
      rw [this, decide_eq_true_iff]
      exact eq_comm
    have k1 := (zc9 (f := f) (l := l) (ss := List.range f.length) (st := 2 ^ f.length - 1) (n + 29) f10 (fun p => by rw [List.mem_range, vC, decide_eq_true_iff]; omega) List.nodup_range).2
    obtain ⟨k2l, k2⟩ := zc9 (f := f) (l := l) (ss := [0]) (st := 1) (n + 29) f10 (fun p => by rw [List.mem_singleton, b1]; omega) (by simp)
    have k2 : zG U zp (n + 31) 75 [fD f, cD l, .lst [.int 0]] = some (.obj true (lD (zY f (yB f l [0])))) := k2
    have w1 := zk9 (f := f) (l := l) nd h1
    have w2 := zla (f := f) (l := l) nd h1
    have rn : ze .rngL [.int (f.length : Int)] = some (.obj true (.lst (zQ (List.range f.length)))) := by
      show (if (0 : Int) ≤ (f.length : Int) ∧ (f.length : Int) ≤ 1000 then some (SV.obj true (.lst ((List.range (f.length : Int).toNat).map fun (k : Nat) => D.int (k : Int)))) else none) = _
      rw [if_pos (by omega)]
      rfl
    have ix := Xl (f := f) (q := 0) (by omega)
    have ix : ze .idx [fD f, .int 0] = some (.val (cD (f.getD 0 (0, 0)))) := ix
    have E2l : (zY f (yB f l [0])).length ≤ 1000 := by unfold zY; rw [List.length_map]; exact k2l
    have w1' : zY f (yB f l (List.range f.length)) ≠ [] ↔ ∃ w, HW f l w := (not_congr zlj).trans w1
    have w2' : (zY f (yB f l [0])).filter (fun c => zO l c (f.getD 0 (0, 0))) ≠ [] ↔ ∃ w, HR f l w := by
      rw [← w2]
      unfold zY
      rw [Ne, List.filter_eq_nil_iff]
      simp
    generalize zY f (yB f l (List.range f.length)) = E1 at k1 w1'
    generalize zY f (yB f l [0]) = E2 at k2 w2' E2l
    generalize f.getD 0 (0, 0) = u at ix w2'
    have cp : ∀ ρ : Env, ρ[2]? = some (some (.val (fD f))) → ρ[3]? = some (some (.val (cD l))) →
        zg (zG U zp (n + 31)) (.comp false (.cons (.call 75 (.cons (.var 2) (.cons (.var 3) (.cons (.lst (.cons (.int 0) .nil)) .nil)))) .nil) (.call 17 (.cons (.var 4) (.cons (.var 0) (.cons (.prim .idx (.cons (.var 3) (.cons (.int 0) .nil))) .nil)))) (.var 0)) ρ = some (.obj true (lD (E2.filter fun c => zO l c u))) := by
      intro ρ h2 h3
      rw [VT (rs := [.obj true (lD E2)]) (xs := E2) (f := cD) (fun c => zO l c u) cD]
      · rfl
      · simp -implicitDefEqProofs [h2, h3, k2]
      · rfl
      · omega
      · intro c _
        have a3 := Xh (n + 30) l c u
        simp [h2, h3, ix, a3]
      · intro c _ _; simp
    generalize E2.filter (fun c => zO l c u) = E3 at w2' cp
    have n1 : ze .ne [lD E1, .lst []] = some (.val (.bl (!decide (E1 = [])))) := qd (b := [])
    have n3 : ze .ne [lD E3, .lst []] = some (.val (.bl (!decide (E3 = [])))) := qd (b := [])
    rcases zcX (n + 26) hf hl (by omega) with ⟨w, hw, ew⟩ | ⟨hw, ew⟩
    · have iw := Ji (n + 29) hf hw
      have t1 : E1 ≠ [] := w1'.mpr ⟨w, hw⟩
      rcases Jj (n + 26) hf hl (by omega) with ⟨r, a, b, hr, h3, rl, er, i0, i1, na⟩ | ⟨hr, er⟩
      · have ir := Ji (n + 29) hf hr.toHW
        have nr := Xh (n + 30) l a b
        rw [na] at nr
        have lr : ze .len [lD r] = some (.val (.int (r.length : Int))) := by show zI ((r.map cD).length : Int) = _; rw [List.length_map]; rfl
        have lt : ¬ ((r.length : Int) < 3) := by omega
        have t3 : E3 ≠ [] := w2'.mpr ⟨r, hr⟩
        have g2 : (2 : Int) < (f.length : Int) := by omega
        simp -implicitDefEqProofs [c0, c1, e1, e2, m4, hc, ew, er, iw, ir, nr, i0, i1, lr, lt, jy, xZ, rn, k1, cp, n1, n3, t1, t3, g2, Xp]
      · by_cases g2 : (2 : Int) < (f.length : Int)
        · have t3 : E3 = [] := by
            rcases Classical.em (E3 = []) with z | z
            · exact z
            · exact absurd ⟨by omega, w2'.mp z⟩ hr
          subst t3
          simp -implicitDefEqProofs [c0, c1, e1, e2, m4, hc, ew, er, iw, jy, xZ, rn, k1, cp, n1, n3, t1, g2, Xp]
        · simp -implicitDefEqProofs [c0, c1, e1, e2, m4, hc, ew, er, iw, jy, xZ, rn, k1, cp, n1, n3, t1, g2, Xp]
    · have t1 : E1 = [] := by
        rcases Classical.em (E1 = []) with z | z
        · exact z
        · obtain ⟨w, h⟩ := w1'.mp z
          exact absurd h (hw w)
      subst t1
      rcases Jj (n + 26) hf hl (by omega) with ⟨r, a, b, hr, h3, rl, er, i0, i1, na⟩ | ⟨hr, er⟩
      · exact absurd hr.toHW (hw r)
      · by_cases g2 : (2 : Int) < (f.length : Int)
        · have t3 : E3 = [] := by
            rcases Classical.em (E3 = []) with z | z
            · exact z
            · exact absurd ⟨by omega, w2'.mp z⟩ hr
          subst t3
          simp -implicitDefEqProofs [c0, c1, e1, e2, m4, hc, ew, er, jy, xZ, rn, k1, cp, n1, n3, g2, Xp]
        · simp -implicitDefEqProofs [c0, c1, e1, e2, m4, hc, ew, er, jy, xZ, rn, k1, cp, n1, n3, g2, Xp]
theorem zll (ns : List Int) (_ : ns.length ≤ 63) : zG U zp depth 76 [.lst (ns.map D.int)] = some (.val (.bl true)) := zlk 8 ns
end LK
set_option maxHeartbeats 4000000
namespace LK
open PySem PySem.Spec PyProof.Rows L2 L2.LW
noncomputable def zF (i : Nat) : Stmt := PySem.Challenge.pw_leaperwalk_k08_walks.main.body.getD i (.Pass ⟨0, 0, 0, 0⟩)
noncomputable def ye : Nat → List Str
  | 0 => ["thing", "least", "most"]
  | 1 => ["thing"]
  | 2 => ["thing"]
  | 3 => ["thing"]
  | 4 => ["cells"]
  | 5 => ["thing"]
  | 6 => ["floor"]
  | 7 => ["leap"]
  | 9 => ["down", "right"]
  | 10 => ["leap", "one", "other"]
  | 13 => ["_law_script", "_law_k"]
  | 14 => ["_law_cell_here", "_law_prime", "_law_many"]
  | 15 => ["_law_script", "_law_at", "_law_most"]
  | 16 => ["_law_cell_here"]
  | 17 => ["_law_leap_here", "_law_one", "_law_other"]
  | 61 => ["floor", "most"]
  | 62 => ["floor", "leap", "cell"]
  | 63 => ["count", "starts"]
  | 64 => ["near", "layer"]
  | 65 => ["near", "starts"]
  | 66 => ["floor", "near", "starts", "ends"]
  | 67 => ["floor", "leap"]
  | 68 => ["floor", "leap"]
  | 74 => ["_law_floor_here", "_law_leap_here", "_law_found"]
  | 75 => ["_law_floor_here", "_law_leap_here", "_law_starts"]
  | 76 => ["_law_script"]
  | _ => []
noncomputable def zda : Nat → List Nat
  | _ => []
noncomputable abbrev fO (x : Str) (i : Nat) := PySem.W.fnOf x x (jR (zF i)) (vt (zF i)) (zA (zF i)) .none
structure nT (K : PySem.W.Frag) (mg : Str → Option Value) (F : Nat → Addr) (FD : Nat → FuncData) (k : Nat) (x : Str) (t : Nat) : Prop where
  m : mg x = some (.ref (F k))
  f : Fun K x x (zF t) (F k) (FD k)
  b : Binds K (FD k) (ye k) []
structure fH (K : PySem.W.Frag) (f : Addr) (oc : Value) (od : Option Addr) (kV dc pm : Value) (an : Option Addr) (cd ct : Value) (sl : Array (Option Value)) (x : Str) (t : Nat) : Prop where
  a : PySem.W.nsIn K mainGlobals x = some (some (.ref f))
  l : K.lookup f = some ⟨oc, od, .func (fO x t kV dc pm an cd ct), sl⟩
  e : PySem.W.codeIn K cd x = true
  k : PySem.W.keepIn K (.ref f) = true
noncomputable def Xq (K : PySem.W.Frag) (a : Addr) : FuncData := match K.lookup a with
  | some ⟨_, _, .func fd, _⟩ => fd
  | _ => fO "" 0 .none .none .none none .none .none
theorem zdb {K : PySem.W.Frag} {f : Addr} {oc : Value} {od : Option Addr} {fd : FuncData} {sl : Array (Option Value)} (l : K.lookup f = some ⟨oc, od, .func fd, sl⟩) : Xq K f = fd := by unfold Xq; rw [l]
theorem yt {K : PySem.W.Frag} {mg : Str → Option Value} {F : Nat → Addr} {h : Heap} {f : Addr} {oc : Value} {od : Option Addr} {kV dc pm : Value} {an : Option Addr} {cd ct : Value} {sl : Array (Option Value)} {x : Str} {t k : Nat} (X : K.In h) (G : h.Ns mainGlobals mg) (z : fH K f oc od kV dc pm an cd ct sl x t)
    (hF : F k = f) (hb : ∀ (kV doc pm : Value) (an : Option Addr) (cdv ct : Value) (us : List Value), us.length = (ye k).length → bindArgs (fO x t kV doc pm an cdv ct) ⟨us, []⟩ = pure ((ye k).zip us)) : nT K mg F (fun i => Xq K (F i)) k x t := by
  subst hF
  have e := zgB (st := zF t) z.l z.e z.k
  have d := zdb z.l
  exact ⟨PySem.W.mg_of X G z.a, by rw [d]; exact e, by rw [d]; exact e.binds hb⟩
structure Txt (K : PySem.W.Frag) (mg : Str → Option Value) (F : Nat → Addr) (FD : Nat → FuncData) (TK : Nat → Tok) : Prop where
  n0 : nT K mg F FD 0 "is_whole" 9
  n1 : nT K mg F FD 1 "is_couple" 10
  n2 : nT K mg F FD 2 "is_cell" 11
  n3 : nT K mg F FD 3 "is_leap" 12
  n4 : nT K mg F FD 4 "is_rising" 13
  n5 : nT K mg F FD 5 "is_floor" 14
  n6 : nT K mg F FD 6 "checked" 15
  n7 : nT K mg F FD 7 "checked_leap" 16
  n9 : nT K mg F FD 9 "folded" 18
  n10 : nT K mg F FD 10 "are_near" 19
  n13 : nT K mg F FD 13 "_law_cell" 31
  n14 : nT K mg F FD 14 "_law_mix" 32
  n15 : nT K mg F FD 15 "_law_floor" 33
  n16 : nT K mg F FD 16 "_law_leap" 34
  n17 : nT K mg F FD 17 "_law_is_near" 35
  n61 : nT K mg F FD 61 "refuse_big" 22
  n62 : nT K mg F FD 62 "bits_near" 23
  n63 : nT K mg F FD 63 "one_cell_walks" 24
  n64 : nT K mg F FD 64 "one_cell_longer" 25
  n65 : nT K mg F FD 65 "layers_from" 26
  n66 : nT K mg F FD 66 "walk_between" 27
  n67 : nT K mg F FD 67 "walk" 28
  n68 : nT K mg F FD 68 "ring_walk" 29
  n74 : nT K mg F FD 74 "_law_is_walk" 36
  n75 : nT K mg F FD 75 "_law_ends" 37
  n76 : nT K mg F FD 76 "law" 38
  z_isinstance : mg "isinstance" = none
  z_int : mg "int" = none
  z_bool : mg "bool" = none
  z_len : mg "len" = none
  z_tuple : mg "tuple" = none
  z_range : mg "range" = none
  z_all : mg "all" = none
  z_abs : mg "abs" = none
  z_max : mg "max" = none
  z_min : mg "min" = none
  z_enumerate : mg "enumerate" = none
  z_sum : mg "sum" = none
  z_reversed : mg "reversed" = none
  z_sorted : mg "sorted" = none
  z_list : mg "list" = none
  c0 : mg "LAST_LINE" = some (.int 7 (TK 0))
  c1 : mg "MOST_CELLS" = some (.int 24 (TK 1))
  c2 : mg "LONGEST_LEAP" = some (.int 4 (TK 2))
  c3 : mg "MOST_TO_WALK" = some (.int 16 (TK 3))
noncomputable abbrev xD (x : Str) : Prop := (x == ("__debug__" : Str)) = false
noncomputable abbrev xC (x : Str) : Prop := (x == ("__classdict__" : Str)) = false
noncomputable abbrev xN (x : Str) : Prop := x ≠ "__name__"
noncomputable abbrev xV (i : Nat) (x : Str) : Prop := wz (zA (zF i)) x
noncomputable abbrev xL (i : Nat) (x : Str) : Prop := wA (zA (zF i)) x
noncomputable abbrev xG (i : Nat) (x : Str) : Prop := (zA (zF i)).names.lookup x = some .globalImplicit
noncomputable def zdc (N P : List Str) (sc : Scope) : Bool := decide (sc.kind = .function) && !sc.isCoroutine && !sc.isGenerator && decide N.Nodup && decide (N.take P.length = P) && P.all (fun x => decide (sc.names.lookup x = some .local) || decide (sc.names.lookup x = some .cell)) && sc.names.all fun y => decide (y.2 ≠ .free)
theorem yu {N P : List Str} {sc : Scope} (h : zdc N P sc = true) : FnScope N P sc := by
  simp only [zdc, Bool.and_eq_true, decide_eq_true_eq, List.all_eq_true, Bool.or_eq_true, Bool.not_eq_true'] at h
  obtain ⟨⟨⟨⟨⟨⟨a, b⟩, c⟩, d⟩, e⟩, f⟩, g⟩ := h
  exact ⟨a, b, c, d, e, f, g⟩
noncomputable abbrev rO (F : Nat → Addr) (cdv : Value) (A : Around) (s : Shared) (n : Nat) (q : Str) (t i : Nat) : Prop := Room n (A.deeper (envOfC q (zA (zF t)) s.heap.objs.size (F i) cdv))
noncomputable abbrev bO (Pg : Program) (w : World) (K : PySem.W.Frag) (mg : Str → Option Value) (base : Heap) (F : Nat → Addr) (cdv : Value) (A : Around) (outer : List PySem.Env) (s : Shared) (H : Hp) (E : XK) (fuel n : Nat) (N : List Str) (q : Str) (t i : Nat) (ir : Ss) : Prop := ISs (vL xx Pg w K mg base N q (zA (zF t)) (F i) cdv A outer s H E).nox (zy (zR U fuel n) fuel ir) (vt (zF t))
theorem zlm : xD "least" := by decide +kernel
theorem zln : xC "least" := by decide +kernel
theorem xu : xD "thing" := by decide +kernel
theorem xw : xC "thing" := by decide +kernel
theorem zdd : xD "most" := by decide +kernel
theorem zde : xC "most" := by decide +kernel
theorem zlo : xD "int" := by decide +kernel
theorem zlp : xN "int" := by decide +kernel
theorem zlq : xD "bool" := by decide +kernel
theorem zlr : xN "bool" := by decide +kernel
theorem xl : xD "len" := by decide +kernel
theorem xm : xN "len" := by decide +kernel
theorem qv : xD "tuple" := by decide +kernel
theorem qw : xN "tuple" := by decide +kernel
theorem zdf : xD "LAST_LINE" := by decide +kernel
theorem Jk : xD "is_whole" := by decide +kernel
theorem zdg : xD "is_couple" := by decide +kernel
theorem zls : xD "LONGEST_LEAP" := by decide +kernel
theorem Xr : xD "cells" := by decide +kernel
theorem Xs : xC "cells" := by decide +kernel
theorem wI : xD "place" := by decide +kernel
theorem wJ : xC "place" := by decide +kernel
theorem zdh : xD "all" := by decide +kernel
theorem zdi : xN "all" := by decide +kernel
theorem zlt : xD "is_rising" := by decide +kernel
theorem zlu : xD "part" := by decide +kernel
theorem zlv : xC "part" := by decide +kernel
theorem zlw : xD "is_cell" := by decide +kernel
theorem zlx : xD "MOST_CELLS" := by decide +kernel
theorem yX : xD "floor" := by decide +kernel
theorem yY : xC "floor" := by decide +kernel
theorem zly : xD "is_floor" := by decide +kernel
theorem vU : xD "leap" := by decide +kernel
theorem vV : xC "leap" := by decide +kernel
theorem zlz : xD "is_leap" := by decide +kernel
theorem zdj : xD "right" := by decide +kernel
theorem zdk : xC "right" := by decide +kernel
theorem Zy : xD "abs" := by decide +kernel
theorem Zz : xN "abs" := by decide +kernel
theorem zdl : xD "down" := by decide +kernel
theorem zdm : xC "down" := by decide +kernel
theorem zlA : xD "max" := by decide +kernel
theorem zlB : xN "max" := by decide +kernel
theorem zlC : xD "min" := by decide +kernel
theorem zlD : xN "min" := by decide +kernel
theorem qx : xD "other" := by decide +kernel
theorem qy : xC "other" := by decide +kernel
theorem zdn : xD "one" := by decide +kernel
theorem zdo : xC "one" := by decide +kernel
theorem zlE : xD "folded" := by decide +kernel
theorem qz : xD "cell" := by decide +kernel
theorem qA : xC "cell" := by decide +kernel
theorem zlF : xD "are_near" := by decide +kernel
theorem zlG : xD "sum" := by decide +kernel
theorem zlH : xN "sum" := by decide +kernel
theorem Xt : xD "layer" := by decide +kernel
theorem Xu : xC "layer" := by decide +kernel
theorem zlI : xD "count" := by decide +kernel
theorem zlJ : xC "count" := by decide +kernel
theorem qB : xD "starts" := by decide +kernel
theorem qD : xC "starts" := by decide +kernel
theorem qE : xD "longer" := by decide +kernel
theorem qF : xC "longer" := by decide +kernel
theorem vj : xD "near" := by decide +kernel
theorem vk : xC "near" := by decide +kernel
theorem jz : xD "visited" := by decide +kernel
theorem jA : xC "visited" := by decide +kernel
theorem Jl : xD "bit" := by decide +kernel
theorem Jm : xC "bit" := by decide +kernel
theorem ZA : xD "layers" := by decide +kernel
theorem ZB : xC "layers" := by decide +kernel
theorem zlK : xD "one_cell_longer" := by decide +kernel
theorem zlL : xD "one_cell_walks" := by decide +kernel
theorem zdp : xD "ends" := by decide +kernel
theorem zdq : xC "ends" := by decide +kernel
theorem zlM : xD "layers_from" := by decide +kernel
theorem zdr : xD "anywhere" := by decide +kernel
theorem zds : xC "anywhere" := by decide +kernel
theorem zdt : xD "walk_between" := by decide +kernel
theorem zdu : xD "bits_near" := by decide +kernel
theorem zdv : xD "MOST_TO_WALK" := by decide +kernel
theorem zdw : xD "refuse_big" := by decide +kernel
theorem zdx : xD "checked_leap" := by decide +kernel
theorem zdy : xD "checked" := by decide +kernel
theorem vF : xD "_law_k" := by decide +kernel
theorem vG : xC "_law_k" := by decide +kernel
theorem vH : xD "_law_script" := by decide +kernel
theorem vI : xC "_law_script" := by decide +kernel
theorem jB : xD "_law_cell_here" := by decide +kernel
theorem jC : xC "_law_cell_here" := by decide +kernel
theorem zlN : xD "_law_prime" := by decide +kernel
theorem zlO : xC "_law_prime" := by decide +kernel
theorem Xv : xD "_law_many" := by decide +kernel
theorem Xw : xC "_law_many" := by decide +kernel
theorem ww : xD "_law_found" := by decide +kernel
theorem wx : xC "_law_found" := by decide +kernel
theorem qG : xD "_law_most" := by decide +kernel
theorem qH : xC "_law_most" := by decide +kernel
theorem zdz : xD "_law_right" := by decide +kernel
theorem zdA : xC "_law_right" := by decide +kernel
theorem zdB : xD "_law_down" := by decide +kernel
theorem zdC : xC "_law_down" := by decide +kernel
theorem zdD : xD "_law_rows" := by decide +kernel
theorem zdE : xC "_law_rows" := by decide +kernel
theorem zdF : xD "_law_wide" := by decide +kernel
theorem zdG : xC "_law_wide" := by decide +kernel
theorem zdH : xD "_law_way" := by decide +kernel
theorem zdI : xC "_law_way" := by decide +kernel
theorem zlP : xD "_law_seed" := by decide +kernel
theorem zlQ : xC "_law_seed" := by decide +kernel
theorem ZC : xD "_law_mix" := by decide +kernel
theorem Jn : xD "_law_c" := by decide +kernel
theorem Jo : xC "_law_c" := by decide +kernel
theorem Jp : xD "_law_r" := by decide +kernel
theorem Jq : xC "_law_r" := by decide +kernel
theorem Jr : xD "_law_at" := by decide +kernel
theorem Js : xC "_law_at" := by decide +kernel
theorem ZD : xD "_law_cell" := by decide +kernel
theorem zlR : xD "_law_some" := by decide +kernel
theorem zlS : xC "_law_some" := by decide +kernel
theorem zdJ : xD "_law_one" := by decide +kernel
theorem zdK : xC "_law_one" := by decide +kernel
theorem vW : xD "_law_other" := by decide +kernel
theorem vX : xC "_law_other" := by decide +kernel
theorem zdL : xD "sorted" := by decide +kernel
theorem zdM : xN "sorted" := by decide +kernel
theorem wK : xD "_law_leap_here" := by decide +kernel
theorem wL : xC "_law_leap_here" := by decide +kernel
theorem qI : xD "list" := by decide +kernel
theorem qJ : xN "list" := by decide +kernel
theorem Jt : xD "_law_is_near" := by decide +kernel
theorem xM : xD "_law_floor_here" := by decide +kernel
theorem xO : xC "_law_floor_here" := by decide +kernel
theorem jD : xD "_law_known" := by decide +kernel
theorem jE : xC "_law_known" := by decide +kernel
theorem zlT : xD "_law_starts" := by decide +kernel
theorem zlU : xC "_law_starts" := by decide +kernel
theorem qK : xD "_law_mask" := by decide +kernel
theorem qL : xC "_law_mask" := by decide +kernel
theorem zlV : xD "_law_table" := by decide +kernel
theorem zlW : xC "_law_table" := by decide +kernel
theorem zlX : xD "_law_here" := by decide +kernel
theorem zlY : xC "_law_here" := by decide +kernel
theorem Ju : xD "_law_more" := by decide +kernel
theorem Jv : xC "_law_more" := by decide +kernel
theorem ZE : xD "_law_ring" := by decide +kernel
theorem ZF : xC "_law_ring" := by decide +kernel
theorem zlZ : xD "_law_last" := by decide +kernel
theorem zl0 : xC "_law_last" := by decide +kernel
theorem zl1 : xD "_law_due" := by decide +kernel
theorem zl2 : xC "_law_due" := by decide +kernel
theorem zdN : xD "_law_ends" := by decide +kernel
theorem zdO : xD "_law_is_walk" := by decide +kernel
theorem zl3 : xD "ring_walk" := by decide +kernel
theorem zl4 : xD "walk" := by decide +kernel
theorem zl5 : xD "_law_leap" := by decide +kernel
theorem zl6 : xD "_law_floor" := by decide +kernel
theorem zl7 : FnScope ["thing", "least", "most"] (ye 0) (zA (zF 9)) := yu (by decide +kernel)
theorem zl8 : xV 9 "least" := .inl (by decide +kernel)
theorem qM : xV 9 "thing" := .inl (by decide +kernel)
theorem zl9 : xV 9 "most" := .inl (by decide +kernel)
theorem zdP : xG 9 "isinstance" := by decide +kernel
theorem zma : xG 9 "int" := by decide +kernel
theorem zmb : xG 9 "bool" := by decide +kernel
theorem zmc : FnScope ["thing"] (ye 1) (zA (zF 10)) := yu (by decide +kernel)
theorem zdQ : xV 10 "thing" := .inl (by decide +kernel)
theorem zmd : xG 10 "len" := by decide +kernel
theorem zme : xG 10 "isinstance" := by decide +kernel
theorem zmf : xG 10 "tuple" := by decide +kernel
theorem zmg : FnScope ["thing"] (ye 2) (zA (zF 11)) := yu (by decide +kernel)
theorem qO : xV 11 "thing" := .inl (by decide +kernel)
theorem zdR : xG 11 "LAST_LINE" := by decide +kernel
theorem zdS : xG 11 "is_whole" := by decide +kernel
theorem zmh : xG 11 "is_couple" := by decide +kernel
theorem zmi : FnScope ["thing"] (ye 3) (zA (zF 12)) := yu (by decide +kernel)
theorem Jw : xV 12 "thing" := .inl (by decide +kernel)
theorem zdT : xG 12 "is_whole" := by decide +kernel
theorem zmj : xG 12 "LONGEST_LEAP" := by decide +kernel
theorem zmk : xG 12 "is_couple" := by decide +kernel
theorem zml : FnScope ["cells"] (ye 4) (zA (zF 13)) := yu (by decide +kernel)
theorem zmm : xV 13 "cells" := .inr (.inl (by decide +kernel))
theorem zmn : xG 13 "len" := by decide +kernel
theorem zmo : xG 13 "range" := by decide +kernel
theorem zmp : xG 13 "all" := by decide +kernel
theorem zmq : FnScope ["thing"] (ye 5) (zA (zF 14)) := yu (by decide +kernel)
theorem Jx : xV 14 "thing" := .inl (by decide +kernel)
theorem zmr : xG 14 "is_rising" := by decide +kernel
theorem zms : xG 14 "all" := by decide +kernel
theorem zmt : xG 14 "len" := by decide +kernel
theorem zmu : xG 14 "MOST_CELLS" := by decide +kernel
theorem zmv : xG 14 "isinstance" := by decide +kernel
theorem zmw : xG 14 "tuple" := by decide +kernel
theorem zmx : FnScope ["floor"] (ye 6) (zA (zF 15)) := yu (by decide +kernel)
theorem zdU : xV 15 "floor" := .inl (by decide +kernel)
theorem zmy : xG 15 "is_floor" := by decide +kernel
theorem zmz : FnScope ["leap"] (ye 7) (zA (zF 16)) := yu (by decide +kernel)
theorem zdV : xV 16 "leap" := .inl (by decide +kernel)
theorem zmA : xG 16 "is_leap" := by decide +kernel
theorem zmB : FnScope ["down", "right"] (ye 9) (zA (zF 18)) := yu (by decide +kernel)
theorem zdW : xV 18 "right" := .inl (by decide +kernel)
theorem zdX : xV 18 "down" := .inl (by decide +kernel)
theorem Jy : xG 18 "abs" := by decide +kernel
theorem zmC : xG 18 "max" := by decide +kernel
theorem zmD : xG 18 "min" := by decide +kernel
theorem zmE : FnScope ["leap", "one", "other"] (ye 10) (zA (zF 19)) := yu (by decide +kernel)
theorem zdY : xV 19 "other" := .inl (by decide +kernel)
theorem zdZ : xV 19 "one" := .inl (by decide +kernel)
theorem zmF : xV 19 "leap" := .inl (by decide +kernel)
theorem zmG : xG 19 "folded" := by decide +kernel
theorem zmH : FnScope ["_law_script", "_law_k"] (ye 13) (zA (zF 31)) := yu (by decide +kernel)
theorem zd0 : xV 31 "_law_k" := .inl (by decide +kernel)
theorem zd1 : xV 31 "_law_script" := .inl (by decide +kernel)
theorem zmI : xG 31 "len" := by decide +kernel
theorem zmJ : FnScope ["_law_cell_here", "_law_prime", "_law_many"] (ye 14) (zA (zF 32)) := yu (by decide +kernel)
theorem zmK : xV 32 "_law_cell_here" := .inl (by decide +kernel)
theorem zmL : xV 32 "_law_prime" := .inl (by decide +kernel)
theorem zmM : xV 32 "_law_many" := .inl (by decide +kernel)
theorem wy : FnScope ["_law_script", "_law_at", "_law_most", "_law_cell_here", "_law_rows", "_law_wide", "_law_down", "_law_right", "_law_way", "_law_found", "_law_r", "_law_c", "_law_seed"] (ye 15) (zA (zF 33)) := yu (by decide +kernel)
theorem qP : xV 33 "_law_found" := .inl (by decide +kernel)
theorem zmN : xV 33 "_law_most" := .inl (by decide +kernel)
theorem zd2 : xV 33 "_law_right" := .inl (by decide +kernel)
theorem zd3 : xV 33 "_law_down" := .inl (by decide +kernel)
theorem zd4 : xV 33 "_law_rows" := .inl (by decide +kernel)
theorem zd5 : xV 33 "_law_wide" := .inl (by decide +kernel)
theorem zd6 : xV 33 "_law_way" := .inl (by decide +kernel)
theorem zmO : xV 33 "_law_seed" := .inl (by decide +kernel)
theorem Jz : xV 33 "_law_c" := .inl (by decide +kernel)
theorem JA : xV 33 "_law_r" := .inl (by decide +kernel)
theorem JB : xV 33 "_law_at" := .inl (by decide +kernel)
theorem JC : xV 33 "_law_script" := .inl (by decide +kernel)
theorem qQ : xV 33 "_law_cell_here" := .inl (by decide +kernel)
theorem zd7 : xL 33 "_law_found" := .inl (by decide +kernel)
theorem zmP : xL 33 "_law_seed" := .inl (by decide +kernel)
theorem zmQ : xL 33 "_law_c" := .inl (by decide +kernel)
theorem zmR : xL 33 "_law_r" := .inl (by decide +kernel)
theorem zmS : xL 33 "_law_way" := .inl (by decide +kernel)
theorem zmT : xL 33 "_law_right" := .inl (by decide +kernel)
theorem zmU : xL 33 "_law_down" := .inl (by decide +kernel)
theorem zmV : xL 33 "_law_wide" := .inl (by decide +kernel)
theorem zmW : xL 33 "_law_rows" := .inl (by decide +kernel)
theorem zmX : xL 33 "_law_cell_here" := .inl (by decide +kernel)
theorem zmY : xG 33 "tuple" := by decide +kernel
theorem zd8 : xG 33 "range" := by decide +kernel
theorem ZG : xG 33 "_law_mix" := by decide +kernel
theorem JD : xG 33 "_law_cell" := by decide +kernel
theorem zd9 : FnScope ["_law_cell_here", "_law_some"] (ye 16) (zA (zF 34)) := yu (by decide +kernel)
theorem zmZ : xV 34 "_law_some" := .inl (by decide +kernel)
theorem zm0 : xV 34 "_law_cell_here" := .inl (by decide +kernel)
theorem zm1 : xL 34 "_law_some" := .inl (by decide +kernel)
theorem zm2 : FnScope ["_law_leap_here", "_law_one", "_law_other"] (ye 17) (zA (zF 35)) := yu (by decide +kernel)
theorem zea : xV 35 "_law_one" := .inl (by decide +kernel)
theorem zeb : xV 35 "_law_other" := .inl (by decide +kernel)
theorem zm3 : xV 35 "_law_leap_here" := .inl (by decide +kernel)
theorem zec : xG 35 "abs" := by decide +kernel
theorem zm4 : xG 35 "sorted" := by decide +kernel
theorem zm5 : xG 35 "list" := by decide +kernel
theorem zm6 : FnScope ["floor", "most"] (ye 61) (zA (zF 22)) := yu (by decide +kernel)
theorem zm7 : xV 22 "floor" := .inl (by decide +kernel)
theorem zm8 : xV 22 "most" := .inl (by decide +kernel)
theorem zm9 : xG 22 "len" := by decide +kernel
theorem zna : FnScope ["floor", "leap", "cell"] (ye 62) (zA (zF 23)) := yu (by decide +kernel)
theorem znb : xV 23 "floor" := .inl (by decide +kernel)
theorem znc : xG 23 "enumerate" := by decide +kernel
theorem znd : xG 23 "sum" := by decide +kernel
theorem qR : FnScope ["count", "starts", "layer", "place"] (ye 63) (zA (zF 24)) := yu (by decide +kernel)
theorem zed : xV 24 "layer" := .inl (by decide +kernel)
theorem zne : xV 24 "count" := .inl (by decide +kernel)
theorem znf : xV 24 "starts" := .inl (by decide +kernel)
theorem qS : xV 24 "place" := .inl (by decide +kernel)
theorem zng : xL 24 "place" := .inl (by decide +kernel)
theorem znh : xL 24 "layer" := .inl (by decide +kernel)
theorem zni : xG 24 "range" := by decide +kernel
theorem Xx : FnScope ["near", "layer", "longer", "visited", "place", "bit"] (ye 64) (zA (zF 25)) := yu (by decide +kernel)
theorem qT : xV 25 "longer" := .inl (by decide +kernel)
theorem zee : xV 25 "near" := .inl (by decide +kernel)
theorem zef : xV 25 "layer" := .inl (by decide +kernel)
theorem JE : xV 25 "visited" := .inl (by decide +kernel)
theorem zeg : xV 25 "place" := .inl (by decide +kernel)
theorem JF : xV 25 "bit" := .inl (by decide +kernel)
theorem znj : xL 25 "bit" := .inl (by decide +kernel)
theorem znk : xL 25 "place" := .inl (by decide +kernel)
theorem znl : xL 25 "visited" := .inl (by decide +kernel)
theorem znm : xL 25 "longer" := .inl (by decide +kernel)
theorem znn : xG 25 "len" := by decide +kernel
theorem zno : xG 25 "range" := by decide +kernel
theorem zeh : FnScope ["near", "starts", "layers"] (ye 65) (zA (zF 26)) := yu (by decide +kernel)
theorem JG : xV 26 "layers" := .inl (by decide +kernel)
theorem qU : xV 26 "near" := .inl (by decide +kernel)
theorem znp : xV 26 "starts" := .inl (by decide +kernel)
theorem znq : xL 26 "layers" := .inl (by decide +kernel)
theorem qV : xG 26 "len" := by decide +kernel
theorem znr : xG 26 "one_cell_longer" := by decide +kernel
theorem zns : xG 26 "one_cell_walks" := by decide +kernel
theorem vY : FnScope ["floor", "near", "starts", "ends", "layers", "visited", "cells", "layer", "place"] (ye 66) (zA (zF 27)) := yu (by decide +kernel)
theorem zei : xV 27 "cells" := .inl (by decide +kernel)
theorem zej : xV 27 "layers" := .inl (by decide +kernel)
theorem zek : xV 27 "near" := .inl (by decide +kernel)
theorem qW : xV 27 "place" := .inl (by decide +kernel)
theorem qX : xV 27 "visited" := .inl (by decide +kernel)
theorem zel : xV 27 "floor" := .inl (by decide +kernel)
theorem znt : xV 27 "layer" := .inl (by decide +kernel)
theorem zem : xV 27 "ends" := .inl (by decide +kernel)
theorem znu : xV 27 "starts" := .inl (by decide +kernel)
theorem znv : xL 27 "ends" := .inl (by decide +kernel)
theorem zen : xL 27 "visited" := .inl (by decide +kernel)
theorem znw : xL 27 "place" := .inl (by decide +kernel)
theorem znx : xL 27 "layer" := .inl (by decide +kernel)
theorem zny : xL 27 "cells" := .inl (by decide +kernel)
theorem znz : xL 27 "layers" := .inl (by decide +kernel)
theorem znA : xG 27 "reversed" := by decide +kernel
theorem znB : xG 27 "len" := by decide +kernel
theorem znC : xG 27 "layers_from" := by decide +kernel
theorem qY : FnScope ["floor", "leap", "near", "anywhere"] (ye 67) (zA (zF 28)) := yu (by decide +kernel)
theorem zeo : xV 28 "anywhere" := .inl (by decide +kernel)
theorem znD : xV 28 "near" := .inl (by decide +kernel)
theorem Xy : xV 28 "floor" := .inr (.inl (by decide +kernel))
theorem znE : xV 28 "leap" := .inr (.inl (by decide +kernel))
theorem znF : xL 28 "anywhere" := .inl (by decide +kernel)
theorem znG : (zA (zF 28)).names.lookup ("near" : Str) = some .local := by decide +kernel
theorem znH : xG 28 "walk_between" := by decide +kernel
theorem znI : xG 28 "len" := by decide +kernel
theorem znJ : xG 28 "MOST_TO_WALK" := by decide +kernel
theorem znK : xG 28 "refuse_big" := by decide +kernel
theorem znL : xG 28 "checked_leap" := by decide +kernel
theorem znM : xG 28 "checked" := by decide +kernel
theorem zep : FnScope ["floor", "leap", "near"] (ye 68) (zA (zF 29)) := yu (by decide +kernel)
theorem zeq : xV 29 "near" := .inl (by decide +kernel)
theorem Xz : xV 29 "floor" := .inr (.inl (by decide +kernel))
theorem znN : xV 29 "leap" := .inr (.inl (by decide +kernel))
theorem znO : (zA (zF 29)).names.lookup ("near" : Str) = some .local := by decide +kernel
theorem znP : xG 29 "walk_between" := by decide +kernel
theorem znQ : xG 29 "len" := by decide +kernel
theorem znR : xG 29 "MOST_TO_WALK" := by decide +kernel
theorem znS : xG 29 "refuse_big" := by decide +kernel
theorem znT : xG 29 "checked_leap" := by decide +kernel
theorem znU : xG 29 "checked" := by decide +kernel
theorem znV : FnScope ["_law_floor_here", "_law_leap_here", "_law_found"] (ye 74) (zA (zF 36)) := yu (by decide +kernel)
theorem qZ : xV 36 "_law_found" := .inr (.inl (by decide +kernel))
theorem znW : xV 36 "_law_floor_here" := .inl (by decide +kernel)
theorem znX : xG 36 "len" := by decide +kernel
theorem znY : xG 36 "range" := by decide +kernel
theorem znZ : xG 36 "sorted" := by decide +kernel
theorem zer : xG 36 "list" := by decide +kernel
theorem zn0 : xG 36 "isinstance" := by decide +kernel
theorem vJ : FnScope ["_law_floor_here", "_law_leap_here", "_law_starts", "_law_many", "_law_table", "_law_known", "_law_k", "_law_mask", "_law_here", "_law_other", "_law_more"] (ye 75) (zA (zF 37)) := yu (by decide +kernel)
theorem jF : xV 37 "_law_known" := .inl (by decide +kernel)
theorem ga : xV 37 "_law_many" := .inr (.inl (by decide +kernel))
theorem zn1 : xV 37 "_law_starts" := .inl (by decide +kernel)
theorem zes : xV 37 "_law_k" := .inl (by decide +kernel)
theorem gb : xV 37 "_law_mask" := .inl (by decide +kernel)
theorem zn2 : xV 37 "_law_table" := .inl (by decide +kernel)
theorem zn3 : xV 37 "_law_here" := .inl (by decide +kernel)
theorem JH : xV 37 "_law_other" := .inl (by decide +kernel)
theorem JI : xV 37 "_law_more" := .inl (by decide +kernel)
theorem zn4 : xV 37 "_law_floor_here" := .inr (.inl (by decide +kernel))
theorem zn5 : xL 37 "_law_known" := .inl (by decide +kernel)
theorem zn6 : xL 37 "_law_k" := .inl (by decide +kernel)
theorem zn7 : xL 37 "_law_more" := .inl (by decide +kernel)
theorem zn8 : xL 37 "_law_other" := .inl (by decide +kernel)
theorem zn9 : xL 37 "_law_here" := .inl (by decide +kernel)
theorem zoa : xL 37 "_law_mask" := .inl (by decide +kernel)
theorem zob : xL 37 "_law_many" := .inr (by decide +kernel)
theorem zoc : (zA (zF 37)).names.lookup ("_law_table" : Str) = some .local := by decide +kernel
theorem zet : xG 37 "range" := by decide +kernel
theorem zod : xG 37 "len" := by decide +kernel
theorem vK : FnScope ["_law_script", "_law_most", "_law_floor_here", "_law_leap_here", "_law_found", "_law_ring", "_law_due", "_law_last"] (ye 76) (zA (zF 38)) := yu (by decide +kernel)
theorem ZH : xV 38 "_law_ring" := .inl (by decide +kernel)
theorem zoe : xV 38 "_law_last" := .inl (by decide +kernel)
theorem vZ : xV 38 "_law_floor_here" := .inr (.inl (by decide +kernel))
theorem JJ : xV 38 "_law_found" := .inl (by decide +kernel)
theorem zof : xV 38 "_law_due" := .inl (by decide +kernel)
theorem jG : xV 38 "_law_leap_here" := .inr (.inl (by decide +kernel))
theorem zeu : xV 38 "_law_most" := .inl (by decide +kernel)
theorem gc : xV 38 "_law_script" := .inl (by decide +kernel)
theorem zog : xL 38 "_law_due" := .inl (by decide +kernel)
theorem zoh : xL 38 "_law_ring" := .inl (by decide +kernel)
theorem zoi : xL 38 "_law_found" := .inl (by decide +kernel)
theorem zoj : xL 38 "_law_leap_here" := .inr (by decide +kernel)
theorem zok : xL 38 "_law_floor_here" := .inr (by decide +kernel)
theorem zev : xL 38 "_law_most" := .inl (by decide +kernel)
theorem zol : (zA (zF 38)).names.lookup ("_law_last" : Str) = some .local := by decide +kernel
theorem gd : xG 38 "len" := by decide +kernel
theorem zew : xG 38 "_law_ends" := by decide +kernel
theorem zom : xG 38 "list" := by decide +kernel
theorem zon : xG 38 "range" := by decide +kernel
theorem zoo : xG 38 "_law_is_near" := by decide +kernel
theorem zex : xG 38 "_law_is_walk" := by decide +kernel
theorem zop : xG 38 "ring_walk" := by decide +kernel
theorem zoq : xG 38 "walk" := by decide +kernel
theorem zey : xG 38 "_law_cell" := by decide +kernel
theorem zor : xG 38 "_law_leap" := by decide +kernel
theorem zos : xG 38 "_law_floor" := by decide +kernel
section
variable {Pg : Program} {w : World} {K : PySem.W.Frag} {mg : Str → Option Value} {base : Heap} {F : Nat → Addr} {FD : Nat → FuncData} {TK : Nat → Tok} {n fuel : Nat}
section
variable (T : Txt K mg F FD TK) (hall : ∀ i, FnOk Pg w K mg base xx n (F i) (FD i) (ye i) (vc K (zR U fuel n) i (zda i))) (cdv : Value) (A : Around) (outer : List PySem.Env) (s : Shared) (H : Hp) (E : XK)
include T hall
theorem zot (hr : rO F cdv A s n "is_whole" 9 0) : bO Pg w K mg base F cdv A outer s H E fuel n ["thing", "least", "most"] "is_whole" 9 0 YG :=
  (zj (yS (IW.t (Zf (xJ (Yy (t := .bool) zdP T.z_isinstance zmb T.z_bool PyProof.Rows.boot_bool (zb 0 rfl qM xu xw) zlr zlq zc zc (zt zc zm)) (Vq _ _) xX) (Yr (wG (xJ (Yy (t := .int) zdP T.z_isinstance zma T.z_int PyProof.Rows.boot_int (zb 0 rfl qM xu xw) zlp zlo zc zc (zt zc zm)) (Vq _ _) xX))))) (zj (yk jn)
    zu) zu)
    (zj (yk (zhI Vm Vm (zb 1 rfl zl8 zlm zln) (zb 0 rfl qM xu xw) (zb 2 rfl zl9 zdd zde)))
    zu))
theorem zou (hr : rO F cdv A s n "is_couple" 10 1) : bO Pg w K mg base F cdv A outer s H E fuel n ["thing"] "is_couple" 10 1 YH :=
  (zj (yk (vQ (Yy (t := .tuple) zme T.z_isinstance zmf T.z_tuple PyProof.Rows.boot_tuple (zb 0 rfl zdQ xu xw) qw qv zc zc (zt zc zm)) (Ze (wZ (wr hr.units) (yg xj zmd T.z_len PySem.boot_len (za (zb 0 rfl zdQ xu xw) zi zc) xm xl zc zm) zh (yv _)))))
    zu)
theorem zov (hr : rO F cdv A s n "is_cell" 11 2) : bO Pg w K mg base F cdv A outer s H E fuel n ["thing"] "is_cell" 11 2 YI :=
  (zj (yk (vQ (zK (zJ (hall 1) rfl) hr zmh T.n1.m T.n1.f.kp (T.n1.b) (za (zb 0 rfl qO xu xw) zi zc) zdg zc zm) (vQ (zK (zJ (hall 0) rfl) hr zdS T.n0.m T.n0.f.kp (T.n0.b) (za (zV hr.units (zb 0 rfl qO xu xw) zh (fun _ _ => rfl)) (za zh (za (Zd zdR T.c0 zdf) zi zc) zo) yc) Jk yc (zt zo (zt zc zm))) (Ze (zK (zJ (hall 0) rfl) hr zdS T.n0.m T.n0.f.kp (T.n0.b) (za (zV hr.units (zb 0 rfl qO xu xw) zh (fun _ _ => rfl)) (za zh (za (Zd zdR T.c0 zdf) zi zc) zo) yc) Jk yc (zt zo (zt zc zm)))))))
    zu)
theorem zow (hr : rO F cdv A s n "is_leap" 12 3) : bO Pg w K mg base F cdv A outer s H E fuel n ["thing"] "is_leap" 12 3 YJ :=
  (zj (yk (vQ (zK (zJ (hall 1) rfl) hr zmk T.n1.m T.n1.f.kp (T.n1.b) (za (zb 0 rfl Jw xu xw) zi zc) zdg zc zm) (vQ (zK (zJ (hall 0) rfl) hr zdT T.n0.m T.n0.f.kp (T.n0.b) (za (zV hr.units (zb 0 rfl Jw xu xw) zh (fun _ _ => rfl)) (za zh (za (Zd zmj T.c2 zls) zi zc) zo) yc) Jk yc (zt zo (zt zc zm))) (Ze (zK (zJ (hall 0) rfl) hr zdT T.n0.m T.n0.f.kp (T.n0.b) (za (zV hr.units (zb 0 rfl Jw xu xw) zh (fun _ _ => rfl)) (za zh (za (zV hr.units (zb 0 rfl Jw xu xw) zh (fun _ _ => rfl)) zi yc) zo) yc) Jk yc (zt zo (zt yc zm)))))))
    zu)
theorem zox (hr : rO F cdv A s n "is_rising" 13 4) : bO Pg w K mg base F cdv A outer s H E fuel n ["cells"] "is_rising" 13 4 YK :=
  (zj (yk (yg (zbq rfl) zmp T.z_all (by decide +kernel) (za (Yw rfl (ve (sc := zA (zF 13)) (N := ["cells"]) rfl rfl (by decide +kernel)) (za7 zmo T.z_range (za zh (za (yg xj zmn T.z_len PySem.boot_len (za (zb 0 rfl zmm Xr Xs) zi zc) xm xl zc zm) zi yd) zo) zo yd) (.inl ⟨rfl, rfl⟩) (fun _ _ _ _ => (wZ (Yp hr.units) (zV hr.units (zb 1 rfl (yT (by decide +kernel)) Xr Xs) (zC xW (zb 0 rfl (xA (by decide +kernel)) wI wJ) zh) (fun _ _ => rfl)) (zV hr.units (zb 1 rfl (yT (by decide +kernel)) Xr Xs) (zb 0 rfl (xA (by decide +kernel)) wI wJ) (fun _ _ => rfl)) (yv _)))) zi Zc) zdi zdh Zc zm))
    zu)
theorem zoy (hr : rO F cdv A s n "is_floor" 14 5) : bO Pg w K mg base F cdv A outer s H E fuel n ["thing"] "is_floor" 14 5 YL :=
  (zj (yS (IW.t (Zf (wG (xJ (Yy (t := .tuple) zmv T.z_isinstance zmw T.z_tuple PyProof.Rows.boot_tuple (zb 0 rfl Jx xu xw) qw qv zc zc (zt zc zm)) (Vq _ _) xX)) (Yr (wG (zhJ rfl rfl Vm Vm zh (yg xj zmt T.z_len PySem.boot_len (za (zb 0 rfl Jx xu xw) zi zc) xm xl zc zm) (Zd zmu T.c1 zlx)))))) (zj (yk jn)
    zu) zu)
    (zj (yk (vQ (yg (zbq rfl) zms T.z_all (by decide +kernel) (za (Yw rfl (ve (sc := zA (zF 14)) (N := ["thing"]) rfl rfl (by decide +kernel)) (Yu (zb 0 rfl Jx xu xw)) (.inl ⟨rfl, rfl⟩) (fun _ _ _ _ => (zK (zJ (hall 2) rfl) hr (vR (by decide +kernel)) T.n2.m T.n2.f.kp (T.n2.b) (za (zb 0 rfl (xA (by decide +kernel)) zlu zlv) zi zc) zlw zc zm))) zi Zc) zdi zdh Zc zm) (Ze (zK (zJ (hall 4) rfl) hr zmr T.n4.m T.n4.f.kp (T.n4.b) (za (zb 0 rfl Jx xu xw) zi zc) zlt zc zm))))
    zu))
theorem zoz (hr : rO F cdv A s n "checked" 15 6) : bO Pg w K mg base F cdv A outer s H E fuel n ["floor"] "checked" 15 6 YM :=
  (zj (yS (wG (xJ (zK (zJ (hall 5) rfl) hr zmy T.n5.m T.n5.f.kp (T.n5.b) (za (zb 0 rfl zdU yX yY) zi zc) zly zc zm) (vA _ _) xX)) (zj QQ
    zu) zu)
    (zj (Zh 0 rfl zdU yX yY)
    zu))
theorem zoA (hr : rO F cdv A s n "checked_leap" 16 7) : bO Pg w K mg base F cdv A outer s H E fuel n ["leap"] "checked_leap" 16 7 YN :=
  (zj (yS (wG (xJ (zK (zJ (hall 3) rfl) hr zmA T.n3.m T.n3.f.kp (T.n3.b) (za (zb 0 rfl zdV vU vV) zi zc) zlz zc zm) (vA _ _) xX)) (zj QQ
    zu) zu)
    (zj (Zh 0 rfl zdV vU vV)
    zu))
theorem zoB (hr : rO F cdv A s n "folded" 18 9) : bO Pg w K mg base F cdv A outer s H E fuel n ["down", "right"] "folded" 18 9 YO :=
  (zj (yk (yK (za (yg (zhE rfl) zmD T.z_min PyProof.Rows.boot_min (za (yg Za Jy T.z_abs (by decide +kernel) (za (zb 0 rfl zdX zdl zdm) zi zc) Zz Zy zc zm) (za (yg Za Jy T.z_abs (by decide +kernel) (za (zb 1 rfl zdW zdj zdk) zi zc) Zz Zy zc zm) zi yd) yd) zlD zlC yd (zt yd zm)) (za (yg (zhF rfl) zmC T.z_max PyProof.Rows.boot_max (za (yg Za Jy T.z_abs (by decide +kernel) (za (zb 0 rfl zdX zdl zdm) zi zc) Zz Zy zc zm) (za (yg Za Jy T.z_abs (by decide +kernel) (za (zb 1 rfl zdW zdj zdk) zi zc) Zz Zy zc zm) zi yd) yd) zlB zlA yd (zt yd zm)) zi yd) yd)))
    zu)
theorem zoC (hr : rO F cdv A s n "are_near" 19 10) : bO Pg w K mg base F cdv A outer s H E fuel n ["leap", "one", "other"] "are_near" 19 10 YQ :=
  (zj (yk (wZ (wr hr.units) (zK (zJ (hall 9) rfl) hr zmG T.n9.m T.n9.f.kp (T.n9.b) (za (zC xW (zV hr.units (zb 2 rfl zdY qx qy) zh (fun _ _ => rfl)) (zV hr.units (zb 1 rfl zdZ zdn zdo) zh (fun _ _ => rfl))) (za (zC xW (zV hr.units (zb 2 rfl zdY qx qy) zh (fun _ _ => rfl)) (zV hr.units (zb 1 rfl zdZ zdn zdo) zh (fun _ _ => rfl))) zi yy) yy) zlE yy (zt yy zm)) (zb 0 rfl zmF vU vV) (yv _)))
    zu)
theorem zoD (hr : rO F cdv A s n "_law_cell" 31 13) : bO Pg w K mg base F cdv A outer s H E fuel n ["_law_script", "_law_k"] "_law_cell" 31 13 YR :=
  (zj (yS (xy rfl (Yp hr.units) (zb 1 rfl zd0 vF vG) (yg xj zmI T.z_len PySem.boot_len (za (zb 0 rfl zd1 vH vI) zi zc) xm xl zc zm) (yv _)) (zj (yk (zV hr.units (zb 0 rfl zd1 vH vI) (zb 1 rfl zd0 vF vG) (fun _ _ => rfl)))
    zu) zu)
    (zj (yk zh)
    zu))
theorem zoE (hr : rO F cdv A s n "_law_mix" 32 14) : bO Pg w K mg base F cdv A outer s H E fuel n ["_law_cell_here", "_law_prime", "_law_many"] "_law_mix" 32 14 YS :=
  (zj (yk (zC Yn (zC Yn (zC jZ (zb 0 rfl zmK jB jC) zh) (zb 1 rfl zmL zlN zlO)) (zb 2 rfl zmM Xv Xw)))
    zu)
theorem zoF (hr : rO F cdv A s n "_law_floor" 33 15) : bO Pg w K mg base F cdv A outer s H E fuel n ["_law_script", "_law_at", "_law_most", "_law_cell_here", "_law_rows", "_law_wide", "_law_down", "_law_right", "_law_way", "_law_found", "_law_r", "_law_c", "_law_seed"] "_law_floor" 33 15 YU :=
  (zj (yj 3 wy.nd rfl zmX (zK (zJ (hall 13) rfl) hr JD T.n13.m T.n13.f.kp (T.n13.b) (za (zb 0 rfl JC vH vI) (za (zb 1 rfl JB Jr Js) zi zc) zc) ZD zc (zt zc zm)))
    (zj (yj 4 wy.nd rfl zmW (zC xU zh (zK (zJ (hall 14) rfl) hr ZG T.n14.m T.n14.f.kp (T.n14.b) (za (zb 3 rfl qQ jB jC) (za zh (za zh zi zo) zo) zc) ZC zc (zt zo (zt zo zm)))))
    (zj (yj 5 wy.nd rfl zmV (zC xU zh (zK (zJ (hall 14) rfl) hr ZG T.n14.m T.n14.f.kp (T.n14.b) (za (zb 3 rfl qQ jB jC) (za zh (za zh zi zo) zo) zc) ZC zc (zt zo (zt zo zm)))))
    (zj (yj 6 wy.nd rfl zmU (zK (zJ (hall 14) rfl) hr ZG T.n14.m T.n14.f.kp (T.n14.b) (za (zK (zJ (hall 13) rfl) hr JD T.n13.m T.n13.f.kp (T.n13.b) (za (zb 0 rfl JC vH vI) (za (zC xU (zb 1 rfl JB Jr Js) zh) zi yy) zc) ZD zc (zt yy zm)) (za zh (za (zC xW zh (zb 4 rfl zd4 zdD zdE)) zi yy) zo) yd) ZC yd (zt zo (zt yy zm))))
    (zj (yj 7 wy.nd rfl zmT (zK (zJ (hall 14) rfl) hr ZG T.n14.m T.n14.f.kp (T.n14.b) (za (zK (zJ (hall 13) rfl) hr JD T.n13.m T.n13.f.kp (T.n13.b) (za (zb 0 rfl JC vH vI) (za (zC xU (zb 1 rfl JB Jr Js) zh) zi yy) zc) ZD zc (zt yy zm)) (za zh (za (zC xW zh (zb 5 rfl zd5 zdF zdG)) zi yy) zo) yd) ZC yd (zt zo (zt yy zm))))
    (zj (yj 8 wy.nd rfl zmS (zK (zJ (hall 14) rfl) hr ZG T.n14.m T.n14.f.kp (T.n14.b) (za (zC xU (zb 3 rfl qQ jB jC) zh) (za zh (za zh zi zo) zo) yy) ZC yy (zt zo (zt zo zm))))
    (zj (yj 9 wy.nd rfl zd7 (xY zi))
    (zj (Yv 10 PassesOwn.never rfl wy.nd rfl zmR (Zi zd8 T.z_range (za (zb 4 rfl zd4 zdD zdE) zi zc) zc) (zj (Yv 11 PassesOwn.never rfl wy.nd rfl zmQ (Zi zd8 T.z_range (za (zb 5 rfl zd5 zdF zdG) zi zc) zc) (zj (yj 12 wy.nd rfl zmP (zC xU (zC xU (zK (zJ (hall 13) rfl) hr JD T.n13.m T.n13.f.kp (T.n13.b) (za (zb 0 rfl JC vH vI) (za (zC xU (zC xU (zb 1 rfl JB Jr Js) zh) (zC Yn (zC xU (zb 10 rfl JA Jp Jq) (zC jZ zh (zb 11 rfl Jz Jn Jo))) zh)) zi yy) zc) ZD zc (zt yy zm)) (zC jZ (zC jZ zh (zb 10 rfl JA Jp Jq)) (zb 10 rfl JA Jp Jq))) (zC jZ (zC jZ zh (zb 11 rfl Jz Jn Jo)) (zb 11 rfl Jz Jn Jo))))
    (zj (yS (IW.t (Zf (xy rfl (wr hr.units) (zb 8 rfl zd6 zdH zdI) zh (yv _)) (Yr (xy rfl (QF hr.units) (zK (zJ (hall 14) rfl) hr ZG T.n14.m T.n14.f.kp (T.n14.b) (za (zb 12 rfl zmO zlP zlQ) (za zh (za (zV hr.units (xY (za zh (za zh (za zh zi zo) zo) zo)) (zC xW (zb 8 rfl zd6 zdH zdI) zh) (fun _ _ => rfl)) zi yc) zo) zc) ZC zc (zt zo (zt yc zm))) zh (yv _))))) (zj (QR 9 rfl qP (yK (za (zC xU (zb 6 rfl zd3 zdB zdC) (zb 10 rfl JA Jp Jq)) (za (zC xU (zb 7 rfl zd2 zdz zdA) (zb 11 rfl Jz Jn Jo)) zi yy) yy)) yN ww wx)
    zu) zu)
    zu)))
    zu))
    (zj (yS (wG (xJ (zb 9 rfl qP ww wx) (zhL _) zhH)) (zj (yj 9 wy.nd rfl zd7 (xY (za (yK (za (zb 6 rfl zd3 zdB zdC) (za (zb 7 rfl zd2 zdz zdA) zi zc) zc)) zi yN)))
    zu) zu)
    (zj (yk (QI zhG zmY T.z_tuple PyProof.Rows.boot_tuple (za (zh7 (zb 9 rfl qP ww wx) (zb 2 rfl zmN qG qH)) zi yc) qw qv yc zm))
    zu))))))))))
theorem zoG (hr : rO F cdv A s n "_law_leap" 34 16) : bO Pg w K mg base F cdv A outer s H E fuel n ["_law_cell_here", "_law_some"] "_law_leap" 34 16 YV :=
  (zj (yj 1 zd9.nd rfl zm1 (xY (za (yK (za zh (za zh zi zo) zo)) (za (yK (za zh (za zh zi zo) zo)) (za (yK (za zh (za zh zi zo) zo)) (za (yK (za zh (za zh zi zo) zo)) (za (yK (za zh (za zh zi zo) zo)) (za (yK (za zh (za zh zi zo) zo)) (za (yK (za zh (za zh zi zo) zo)) (za (yK (za zh (za zh zi zo) zo)) (za (yK (za zh (za zh zi zo) zo)) (za (yK (za zh (za zh zi zo) zo)) (za (yK (za zh (za zh zi zo) zo)) (za (yK (za zh (za zh zi zo) zo)) (za (yK (za zh (za zh zi zo) zo)) zi yN) yN) yN) yN) yN) yN) yN) yN) yN) yN) yN) yN) yN)))
    (zj (yk (zV hr.units (zC xU (zb 1 rfl zmZ zlR zlS) (xY (za (yK (za zh (za zh zi zo) zo)) (za (yK (za zh (za zh zi zo) zo)) (za (yK (za zh (za zh zi zo) zo)) (za (yK (za zh (za zh zi zo) zo)) (za (yK (za zh (za zh zi zo) zo)) (za (yK (za zh (za zh zi zo) zo)) zi yN) yN) yN) yN) yN) yN))) (zC Yn (zb 0 rfl zm0 jB jC) zh) (fun _ _ => rfl)))
    zu))
theorem zoH (hr : rO F cdv A s n "_law_is_near" 35 17) : bO Pg w K mg base F cdv A outer s H E fuel n ["_law_leap_here", "_law_one", "_law_other"] "_law_is_near" 35 17 YW :=
  (zj (yk (wZ (wr hr.units) (yg zbM zm4 T.z_sorted PyProof.Rows.boot_sorted (za (xY (za (yg Za zec T.z_abs (by decide +kernel) (za (zC xW (zV hr.units (zb 1 rfl zea zdJ zdK) zh (fun _ _ => rfl)) (zV hr.units (zb 2 rfl zeb vW vX) zh (fun _ _ => rfl))) zi yy) Zz Zy yy zm) (za (yg Za zec T.z_abs (by decide +kernel) (za (zC xW (zV hr.units (zb 1 rfl zea zdJ zdK) zh (fun _ _ => rfl)) (zV hr.units (zb 2 rfl zeb vW vX) zh (fun _ _ => rfl))) zi yy) Zz Zy yy zm) zi yd) yd)) zi Zb) zdM zdL Zb zm) (QI zaS zm5 T.z_list PyProof.Rows.boot_list (za (zb 0 rfl zm3 wK wL) zi zc) qJ qI zc zm) (yv _)))
    zu)
theorem zoI (hr : rO F cdv A s n "refuse_big" 22 61) : bO Pg w K mg base F cdv A outer s H E fuel n ["floor", "most"] "refuse_big" 22 61 YX :=
  (zj (yS (xy rfl (QF hr.units) (yg xj zm9 T.z_len PySem.boot_len (za (zb 0 rfl zm7 yX yY) zi zc) xm xl zc zm) (zb 1 rfl zm8 zdd zde) (yv _)) (zj QQ
    zu) zu)
    zu)
theorem zoJ (hr : rO F cdv A s n "bits_near" 23 62) : bO Pg w K mg base F cdv A outer s H E fuel n ["floor", "leap", "cell"] "bits_near" 23 62 YY :=
  (zj (yk (yg (zis rfl) znd T.z_sum PyProof.Rows.boot_sum (za (zjc rfl (zjd (sc := zA (zF 23)) (N := ["floor", "leap", "cell"]) rfl rfl (by decide +kernel)) znc T.z_enumerate (zb 0 rfl znb yX yY) zc (fun _ _ _ _ => (xJ (zK (zJ (hall 10) rfl) hr (vR (by decide +kernel)) T.n10.m T.n10.f.kp (T.n10.b) (za (zb 3 rfl (yT (by decide +kernel)) vU vV) (za (zb 4 rfl (yT (by decide +kernel)) qz qA) (za (zb 1 rfl (xA (by decide +kernel)) qx qy) zi zc) zc) zc) zlF zc (zt zc (zt zc zm))) (vA _ _) xX)) (fun _ _ _ _ => (zC wu zh (zb 0 rfl (xA (by decide +kernel)) wI wJ)))) zi Zc) zlH zlG Zc zm))
    zu)
theorem zoK (hr : rO F cdv A s n "one_cell_walks" 24 63) : bO Pg w K mg base F cdv A outer s H E fuel n ["count", "starts", "layer", "place"] "one_cell_walks" 24 63 YZ :=
  (zj (yj 2 qR.nd rfl znh (zbs false))
    (zj (Yv 3 PassesOwn.never rfl qR.nd rfl zng (Zi zni T.z_range (za (zb 0 rfl zne zlI zlJ) zi zc) zc) (zj (yS (xy rfl (Yo hr.units) (zC Zn (zb 1 rfl znf qB qD) (zC wu zh (zb 3 rfl qS wI wJ))) zh (yv _)) (zj (zby 2 hr.units rfl zed (zC wu zh (zb 3 rfl qS wI wJ)) (zC wu zh (zb 3 rfl qS wI wJ)) Xt Xu)
    zu) zu)
    zu))
    (zj (Zh 2 rfl zed Xt Xu)
    zu)))
theorem zoL (hr : rO F cdv A s n "one_cell_longer" 25 64) : bO Pg w K mg base F cdv A outer s H E fuel n ["near", "layer", "longer", "visited", "place", "bit"] "one_cell_longer" 25 64 Xa :=
  (zj (yj 2 Xx.nd rfl znm (zbs false))
    (zj (ziY 3 1 PassesOwn.never rfl Xx.nd rfl znl rfl zef (zj (Yv 4 PassesOwn.never rfl Xx.nd rfl znk (Zi zno T.z_range (za (yg xj znn T.z_len PySem.boot_len (za (zb 0 rfl zee vj vk) zi zc) xm xl zc zm) zi yd) yd) (zj (yj 5 Xx.nd rfl znj (zC wu zh (zb 4 rfl zeg wI wJ)))
    (zj (yS (IW.t (zaX (xy rfl (wr hr.units) (zC Zn (zb 3 rfl JE jz jA) (zb 5 rfl JF Jl Jm)) zh (yv _)) (zaW (xy rfl (Yo hr.units) (zC Zn (zV hr.units (zb 1 rfl zef Xt Xu) (zb 3 rfl JE jz jA) (fun _ _ => rfl)) (zV hr.units (zb 0 rfl zee vj vk) (zb 4 rfl zeg wI wJ) (fun _ _ => rfl))) zh (yv _))))) (zj (zby 2 hr.units rfl qT (zC VH (zb 3 rfl JE jz jA) (zb 5 rfl JF Jl Jm)) (zC VH (zbT hr.units (zb 2 rfl qT qE qF) (zC VH (zb 3 rfl JE jz jA) (zb 5 rfl JF Jl Jm)) zh (VI yy zo)) (zb 5 rfl JF Jl Jm)) qE qF)
    zu) zu)
    zu)))
    zu) (hd := Xt) (hcd := Xu))
    (zj (Zh 2 rfl qT qE qF)
    zu)))
theorem zoM (hr : rO F cdv A s n "layers_from" 26 65) : bO Pg w K mg base F cdv A outer s H E fuel n ["near", "starts", "layers"] "layers_from" 26 65 Xb :=
  (zj (yj 2 zeh.nd rfl znq (xY (za (zK (zJ (hall 63) rfl) hr zns T.n63.m T.n63.f.kp (T.n63.b) (za (yg xj qV T.z_len PySem.boot_len (za (zb 0 rfl qU vj vk) zi zc) xm xl zc zm) (za (zb 1 rfl znp qB qD) zi zc) yd) zlL yd (zt zc zm)) zi yd)))
    (zj (zhU PassesOwn.never (xy rfl (Yp hr.units) (yg xj qV T.z_len PySem.boot_len (za (zb 2 rfl JG ZA ZB) zi zc) xm xl zc zm) (yg xj qV T.z_len PySem.boot_len (za (zb 0 rfl qU vj vk) zi zc) xm xl zc zm) (yv _)) (zj (QR 2 rfl JG (zK (zJ (hall 64) rfl) hr znr T.n64.m T.n64.f.kp (T.n64.b) (za (zb 0 rfl qU vj vk) (za (zV hr.units (zb 2 rfl JG ZA ZB) (QH QD zh) (fun _ _ => rfl)) zi yc) zc) zlK zc (zt yc zm)) yd ZA ZB)
    zu))
    (zj (Zh 2 rfl JG ZA ZB)
    zu)))
theorem zoN (hr : rO F cdv A s n "walk_between" 27 66) : bO Pg w K mg base F cdv A outer s H E fuel n ["floor", "near", "starts", "ends", "layers", "visited", "cells", "layer", "place"] "walk_between" 27 66 Zt :=
  (zj (yj 4 vY.nd rfl znz (zK (zJ (hall 65) rfl) hr znC T.n65.m T.n65.f.kp (T.n65.b) (za (zb 1 rfl zek vj vk) (za (zb 2 rfl znu qB qD) zi zc) zc) zlM zc (zt zc zm)))
    (zj (yj 5 vY.nd rfl zen (zC xW (zC wu zh (yg xj znB T.z_len PySem.boot_len (za (zb 0 rfl zel yX yY) zi zc) xm xl zc zm)) zh))
    (zj (yS (xy rfl (wr hr.units) (zC Zn (zbT hr.units (zV hr.units (zb 4 rfl zej ZA ZB) (QH QD zh) (fun _ _ => rfl)) (zb 5 rfl qX jz jA) zh (VI zc zo)) (zb 3 rfl zem zdp zdq)) zh (yv _)) (zj (yk zaU)
    zu) zu)
    (zj (yj 6 vY.nd rfl zny (xY zi))
    (zj (zih _ (Yv 7 PassesOwn.never rfl vY.nd rfl znx (ziO znA T.z_reversed (za (zb 4 rfl zej ZA ZB) zi zc) zc) (zj (yj 8 vY.nd rfl znw (zC xW (ziK (zC Zn (zV hr.units (zb 7 rfl znt Xt Xu) (zb 5 rfl qX jz jA) (fun _ _ => rfl)) (zb 3 rfl zem zdp zdq))) zh))
    (zj (QR 6 rfl zei (zV hr.units (zb 0 rfl zel yX yY) (zb 8 rfl qW wI wJ) (fun _ _ => rfl)) yc Xr Xs)
    (zj (yj 5 vY.nd rfl zen (zC ziI (zb 5 rfl qX jz jA) (zC wu zh (zb 8 rfl qW wI wJ))))
    (zj (yj 3 vY.nd rfl znv (zV hr.units (zb 1 rfl zek vj vk) (zb 8 rfl qW wI wJ) (fun _ _ => rfl)))
    zu))))))
    (zj (Zh 6 rfl zei Xr Xs)
    zu))))))
theorem zoO (hr : rO F cdv A s n "walk" 28 67) : bO Pg w K mg base F cdv A outer s H E fuel n ["floor", "leap", "near", "anywhere"] "walk" 28 67 Zu :=
  (zj (Zg (zK (zJ (hall 6) rfl) hr znM T.n6.m T.n6.f.kp (T.n6.b) (za (zb 0 rfl Xy yX yY) zi zc) zdy zc zm))
    (zj (Zg (zK (zJ (hall 7) rfl) hr znL T.n7.m T.n7.f.kp (T.n7.b) (za (zb 1 rfl znE vU vV) zi zc) zdx zc zm))
    (zj (Zg (zK (zJ (hall 61) rfl) hr znK T.n61.m T.n61.f.kp (T.n61.b) (za (zb 0 rfl Xy yX yY) (za (Zd znJ T.c3 zdv) zi zc) zc) zdw zc (zt zc zm)))
    (zj (VA 2 rfl qY.nd rfl znG (ve (sc := zA (zF 28)) (N := ["floor", "leap", "near", "anywhere"]) rfl rfl (by decide +kernel)) (Yu (zb 0 rfl Xy yX yY)) (.inl ⟨rfl, rfl⟩) (fun _ _ _ _ => (zK (zJ (hall 62) rfl) hr (vR (by decide +kernel)) T.n62.m T.n62.f.kp (T.n62.b) (za (zb 1 rfl (yT (by decide +kernel)) yX yY) (za (zb 2 rfl (yT (by decide +kernel)) vU vV) (za (zb 0 rfl (xA (by decide +kernel)) qz qA) zi zc) zc) zc) zdu zc (zt zc (zt zc zm)))) (hsw := (VC (sc := zA (zF 28)) rfl (by decide +kernel))))
    (zj (yj 3 qY.nd rfl znF (zC xW (zC wu zh (yg xj znI T.z_len PySem.boot_len (za (zb 0 rfl Xy yX yY) zi zc) xm xl zc zm)) zh))
    (zj (yk (zK (zJ (hall 66) rfl) hr znH T.n66.m T.n66.f.kp (T.n66.b) (za (zb 0 rfl Xy yX yY) (za (zb 2 rfl znD vj vk) (za (zb 3 rfl zeo zdr zds) (za (zb 3 rfl zeo zdr zds) zi zc) zc) zc) zc) zdt zc (zt zc (zt zc (zt zc zm)))))
    zu))))))
theorem zoP (hr : rO F cdv A s n "ring_walk" 29 68) : bO Pg w K mg base F cdv A outer s H E fuel n ["floor", "leap", "near"] "ring_walk" 29 68 jr :=
  (zj (Zg (zK (zJ (hall 6) rfl) hr znU T.n6.m T.n6.f.kp (T.n6.b) (za (zb 0 rfl Xz yX yY) zi zc) zdy zc zm))
    (zj (Zg (zK (zJ (hall 7) rfl) hr znT T.n7.m T.n7.f.kp (T.n7.b) (za (zb 1 rfl znN vU vV) zi zc) zdx zc zm))
    (zj (Zg (zK (zJ (hall 61) rfl) hr znS T.n61.m T.n61.f.kp (T.n61.b) (za (zb 0 rfl Xz yX yY) (za (Zd znR T.c3 zdv) zi zc) zc) zdw zc (zt zc zm)))
    (zj (yS (xy rfl (Yp hr.units) (yg xj znQ T.z_len PySem.boot_len (za (zb 0 rfl Xz yX yY) zi zc) xm xl zc zm) zh (yv _)) (zj (yk zaU)
    zu) zu)
    (zj (VA 2 rfl zep.nd rfl znO (ve (sc := zA (zF 29)) (N := ["floor", "leap", "near"]) rfl rfl (by decide +kernel)) (Yu (zb 0 rfl Xz yX yY)) (.inl ⟨rfl, rfl⟩) (fun _ _ _ _ => (zK (zJ (hall 62) rfl) hr (vR (by decide +kernel)) T.n62.m T.n62.f.kp (T.n62.b) (za (zb 1 rfl (yT (by decide +kernel)) yX yY) (za (zb 2 rfl (yT (by decide +kernel)) vU vV) (za (zb 0 rfl (xA (by decide +kernel)) qz qA) zi zc) zc) zc) zdu zc (zt zc (zt zc zm)))) (hsw := (VC (sc := zA (zF 29)) rfl (by decide +kernel))))
    (zj (yk (zK (zJ (hall 66) rfl) hr znP T.n66.m T.n66.f.kp (T.n66.b) (za (zb 0 rfl Xz yX yY) (za (zb 2 rfl zeq vj vk) (za zh (za (zV hr.units (zb 2 rfl zeq vj vk) zh (fun _ _ => rfl)) zi yc) zo) zc) zc) zdt zc (zt zc (zt zo (zt yc zm)))))
    zu))))))
theorem zoQ (hr : rO F cdv A s n "_law_is_walk" 36 74) : bO Pg w K mg base F cdv A outer s H E fuel n ["_law_floor_here", "_law_leap_here", "_law_found"] "_law_is_walk" 36 74 Xc :=
  (zj (yS (IW.t (Zf (wG (xJ (Yy (t := .list) zn0 T.z_isinstance zer T.z_list PyProof.Rows.boot_list (zb 2 rfl qZ ww wx) qJ qI zc zc (zt zc zm)) (Vq _ _) xX)) (Yr (xy rfl (Yo hr.units) (yg zbM znZ T.z_sorted PyProof.Rows.boot_sorted (za (zb 2 rfl qZ ww wx) zi zc) zdM zdL zc zm) (QI zaS zer T.z_list PyProof.Rows.boot_list (za (zb 0 rfl znW xM xO) zi zc) qJ qI zc zm) (yv _))))) (zj (yk jn)
    zu) zu)
    (zj (yk (wZ (wr hr.units) (Yw rfl (ve (sc := zA (zF 36)) (N := ["_law_floor_here", "_law_leap_here", "_law_found"]) rfl rfl (by decide +kernel)) (za7 znY T.z_range (za zh (za (yg xj znX T.z_len PySem.boot_len (za (zb 2 rfl qZ ww wx) zi zc) xm xl zc zm) zi yd) zo) zo yd) (.inr ⟨_, rfl, fun _ _ _ _ => (wG (xJ (zK (zJ (hall 17) rfl) hr (vR (by decide +kernel)) T.n17.m T.n17.f.kp (T.n17.b) (za (zb 2 rfl (yT (by decide +kernel)) wK wL) (za (zV hr.units (zb 3 rfl (yT (by decide +kernel)) ww wx) (zC xW (zb 0 rfl (xA (by decide +kernel)) vF vG) zh) (fun _ _ => rfl)) (za (zV hr.units (zb 3 rfl (yT (by decide +kernel)) ww wx) (zb 0 rfl (xA (by decide +kernel)) vF vG) (fun _ _ => rfl)) zi yc) yc) zc) Jt zc (zt yc (zt yc zm))) (vA _ _) xX))⟩) (fun _ _ _ _ => (zb 0 rfl (xA (by decide +kernel)) vF vG))) (xY zi) (yv _)))
    zu))
theorem zoR (hr : rO F cdv A s n "_law_ends" 37 75) : bO Pg w K mg base F cdv A outer s H E fuel n ["_law_floor_here", "_law_leap_here", "_law_starts", "_law_many", "_law_table", "_law_known", "_law_k", "_law_mask", "_law_here", "_law_other", "_law_more"] "_law_ends" 37 75 Xd :=
  (zj (yj 3 vJ.nd rfl zob (yg xj zod T.z_len PySem.boot_len (za (zb 0 rfl zn4 xM xO) zi zc) xm xl zc zm))
    (zj (VA 4 rfl vJ.nd rfl zoc (ve (sc := zA (zF 37)) (N := ["_law_floor_here", "_law_leap_here", "_law_starts", "_law_many", "_law_table", "_law_known", "_law_k", "_law_mask", "_law_here", "_law_other", "_law_more"]) rfl rfl (by decide +kernel)) (Zi zet T.z_range (za (zb 3 rfl ga Xv Xw) zi zc) zc) (.inl ⟨rfl, rfl⟩) (fun _ _ _ _ => (Yw rfl (zh9 (sc := zA (zF 37)) (N := ["_law_floor_here", "_law_leap_here", "_law_starts", "_law_many", "_law_table", "_law_known", "_law_k", "_law_mask", "_law_here", "_law_other", "_law_more"]) rfl rfl (by decide +kernel)) (Zi (vR (by decide +kernel)) T.z_range (za (zb 4 rfl (yT (by decide +kernel)) Xv Xw) zi zc) zc) (.inr ⟨_, rfl, fun _ _ _ _ => (xJ (zK (zJ (hall 17) rfl) hr (vR (by decide +kernel)) T.n17.m T.n17.f.kp (T.n17.b) (za (zb 3 rfl (yT (by decide +kernel)) wK wL) (za (zV hr.units (zb 2 rfl (yT (by decide +kernel)) xM xO) (zb 1 rfl (yT (by decide +kernel)) vF vG) (fun _ _ => rfl)) (za (zV hr.units (zb 2 rfl (yT (by decide +kernel)) xM xO) (zb 0 rfl (xA (by decide +kernel)) vW vX) (fun _ _ => rfl)) zi yc) yc) zc) Jt zc (zt yc (zt yc zm))) (vA _ _) xX)⟩) (fun _ _ _ _ => (zb 0 rfl (xA (by decide +kernel)) vW vX)))) (hsw := (VC (sc := zA (zF 37)) rfl (by decide +kernel))))
    (zjH (JO (i := 5) vJ.nd rfl zn5 zan)
    (jM PassesOwn.never rfl (JP (yC (i := 2) rfl zn1 zlT zlU)) (vn (i := 6) vJ.nd rfl zn6) (jb (Qb (Zo hr.units) (yC (i := 5) rfl jF jD jE) (zC wu zh (zb 6 rfl zes vF vG)).h (XO (vp (yC (i := 6) rfl zes vF vG) wR zc)) rfl)))
    (jM PassesOwn.never rfl (gA zet T.z_range (za zh (za (zC wu zh (zb 3 rfl ga Xv Xw)) zi yy) zo).h) (vn (i := 7) vJ.nd rfl zoa) (jb (jM PassesOwn.never rfl (JP (Qc (Zo hr.units) (yC (i := 5) rfl jF jD jE) (yC (i := 7) rfl gb qK qL) (XO wR) (VI zc Zb))) (vn (i := 8) vJ.nd rfl zn9) (jb (jM PassesOwn.never rfl (JP (gQ gS (yC (i := 4) rfl zn2 zlV zlW) (yC (i := 8) rfl zn3 zlX zlY) (fun _ _ => rfl))) (vn (i := 9) vJ.nd rfl zn8) (jb (XF (xy rfl (wr hr.units) (zC Zn (zC zjf (zb 7 rfl gb qK qL) (zb 9 rfl JH vW vX)) zh) zh (yv _)).h (jJ (JO (i := 10) vJ.nd rfl zn7 (zC VH (zb 7 rfl gb qK qL) (zC wu zh (zb 9 rfl JH vW vX))).h) (jJ (XF (JK (zgm (Zo hr.units) (yC (i := 10) rfl JI Ju Jv) (yC (i := 5) rfl jF jD jE)) (by with_unfolding_all rfl)) (jb (Qb (Zo hr.units) (yC (i := 5) rfl jF jD jE) (yC (i := 10) rfl JI Ju Jv) (XO wR) rfl)) XD) (jb (XF (gB (zhB hr.units) (yC (i := 9) rfl JH vW vX) (zal (Zo hr.units) (yC (i := 5) rfl jF jD jE) (yC (i := 10) rfl JI Ju Jv) (fun _ _ => rfl)) (by with_unfolding_all rfl)) (jb (JL (gZ PySem.F.plainAttrs_list PySem.F.slot_list_append PySem.F.type_list_append XQ (zal (Zo hr.units) (yC (i := 5) rfl jF jD jE) (yC (i := 10) rfl JI Ju Jv) (fun _ _ => rfl)) (vp (yC (i := 9) rfl JH vW vX) wR zc)))) XD)))) XD)))))))
    (zj (yk (Yw rfl (ve (sc := zA (zF 37)) (N := ["_law_floor_here", "_law_leap_here", "_law_starts", "_law_many", "_law_table", "_law_known", "_law_k", "_law_mask", "_law_here", "_law_other", "_law_more"]) rfl rfl (by decide +kernel)) (Yu (zjl hr.units (zb 5 rfl jF jD jE) (zC xW (zC wu zh (zb 3 rfl ga Xv Xw)) zh) (VI yy Zb))) (.inl ⟨rfl, rfl⟩) (fun _ _ _ _ => (zV hr.units (zb 1 rfl (yT (by decide +kernel)) xM xO) (zb 0 rfl (xA (by decide +kernel)) vF vG) (fun _ _ => rfl)))))
    zu))))
theorem zoS (hr : rO F cdv A s n "law" 38 76) : bO Pg w K mg base F cdv A outer s H E fuel n ["_law_script", "_law_most", "_law_floor_here", "_law_leap_here", "_law_found", "_law_ring", "_law_due", "_law_last"] "law" 38 76 Xe :=
  (zj (yj 1 vK.nd rfl zev zh)
    (zj (yS (xy rfl (wr hr.units) (zC Yn (zK (zJ (hall 13) rfl) hr zey T.n13.m T.n13.f.kp (T.n13.b) (za (zb 0 rfl gc vH vI) (za zh zi zo) zc) ZD zc (zt zo zm)) zh) zh (yv _)) (zj (yj 1 vK.nd rfl zev zh)
    zu) zu)
    (zj (yj 2 vK.nd rfl zok (zK (zJ (hall 15) rfl) hr zos T.n15.m T.n15.f.kp (T.n15.b) (za (zb 0 rfl gc vH vI) (za zh (za (zb 1 rfl zeu qG qH) zi zc) zo) zc) zl6 zc (zt zo (zt zc zm))))
    (zj (yj 3 vK.nd rfl zoj (zK (zJ (hall 16) rfl) hr zor T.n16.m T.n16.f.kp (T.n16.b) (za (zK (zJ (hall 13) rfl) hr zey T.n13.m T.n13.f.kp (T.n13.b) (za (zb 0 rfl gc vH vI) (za zh zi zo) zc) ZD zc (zt zo zm)) zi yd) zl5 yd zm))
    (zj (yj 4 vK.nd rfl zoi (zK (zJ (hall 67) rfl) hr zoq T.n67.m T.n67.f.kp (T.n67.b) (za (zb 2 rfl vZ xM xO) (za (zb 3 rfl jG wK wL) zi zc) zc) zl4 zc (zt zc zm)))
    (zj (yj 5 vK.nd rfl zoh (zK (zJ (hall 68) rfl) hr zop T.n68.m T.n68.f.kp (T.n68.b) (za (zb 2 rfl vZ xM xO) (za (zb 3 rfl jG wK wL) zi zc) zc) zl3 zc (zt zc zm)))
    (zj (yS (IW.t (zaX (zbm (zb 4 rfl JJ ww wx)) (zaW (wG (xJ (zK (zJ (hall 74) rfl) hr zex T.n74.m T.n74.f.kp (T.n74.b) (za (zb 2 rfl vZ xM xO) (za (zb 3 rfl jG wK wL) (za (zb 4 rfl JJ ww wx) zi zc) zc) zc) zdO zc (zt zc (zt zc zm))) (vA _ _) xX))))) (zj (yk jn)
    zu) zu)
    (zj (yS (zbm (zb 5 rfl ZH ZE ZF)) (zj (yS (IW.t (Zf (xy rfl (Yp hr.units) (yg xj gd T.z_len PySem.boot_len (za (zb 5 rfl ZH ZE ZF) zi zc) xm xl zc zm) zh (yv _)) (Zf (wG (xJ (zK (zJ (hall 74) rfl) hr zex T.n74.m T.n74.f.kp (T.n74.b) (za (zb 2 rfl vZ xM xO) (za (zb 3 rfl jG wK wL) (za (zb 5 rfl ZH ZE ZF) zi zc) zc) zc) zdO zc (zt zc (zt zc zm))) (vA _ _) xX)) (Yr (wG (xJ (zK (zJ (hall 17) rfl) hr zoo T.n17.m T.n17.f.kp (T.n17.b) (za (zb 3 rfl jG wK wL) (za (zV hr.units (zb 5 rfl ZH ZE ZF) zh (fun _ _ => rfl)) (za (zV hr.units (zb 5 rfl ZH ZE ZF) (QH QD zh) (fun _ _ => rfl)) zi yc) yc) zc) Jt zc (zt yc (zt yc zm))) (vA _ _) xX)))))) (zj (yk jn)
    zu) zu)
    (zj (yS (zh2 (zb 4 rfl JJ ww wx)) (zj (yk jn)
    zu) zu)
    zu)) zu)
    (zj (yS (xy rfl (wr hr.units) (zb 1 rfl zeu qG qH) zh (yv _)) (zj (yk jn)
    zu) zu)
    (zj (yj 6 vK.nd rfl zog (wZ (Yo hr.units) (zK (zJ (hall 75) rfl) hr zew T.n75.m T.n75.f.kp (T.n75.b) (za (zb 2 rfl vZ xM xO) (za (zb 3 rfl jG wK wL) (za (zjk rfl zom T.z_list zon T.z_range (yg xj gd T.z_len PySem.boot_len (za (zb 2 rfl vZ xM xO) zi zc) xm xl zc zm) yd yd) zi yd) zc) zc) zdN zc (zt zc (zt yd zm))) (xY zi) (yv _)))
    (zj (VA 7 rfl vK.nd rfl zol (ve (sc := zA (zF 38)) (N := ["_law_script", "_law_most", "_law_floor_here", "_law_leap_here", "_law_found", "_law_ring", "_law_due", "_law_last"]) rfl rfl (by decide +kernel)) (Yu (zK (zJ (hall 75) rfl) hr zew T.n75.m T.n75.f.kp (T.n75.b) (za (zb 2 rfl vZ xM xO) (za (zb 3 rfl jG wK wL) (za (xY (za zh zi zo)) zi Zb) zc) zc) zdN zc (zt zc (zt Zb zm)))) (.inr ⟨_, rfl, fun _ _ _ _ => (xJ (zK (zJ (hall 17) rfl) hr (vR (by decide +kernel)) T.n17.m T.n17.f.kp (T.n17.b) (za (zb 4 rfl (yT (by decide +kernel)) wK wL) (za (zb 0 rfl (xA (by decide +kernel)) jB jC) (za (zV hr.units (zb 3 rfl (yT (by decide +kernel)) xM xO) zh (fun _ _ => rfl)) zi yc) zc) zc) Jt zc (zt zc (zt yc zm))) (vA _ _) xX)⟩) (fun _ _ _ _ => (zb 0 rfl (xA (by decide +kernel)) jB jC)) (hsw := (VC (sc := zA (zF 38)) rfl (by decide +kernel))))
    (zj (yk (vQ (wZ (wr hr.units) (zbl (zb 4 rfl JJ ww wx)) (zb 6 rfl zof zl1 zl2) (yv _)) (Ze (wZ (wr hr.units) (zbl (zb 5 rfl ZH ZE ZF)) (vQ (wZ (QF hr.units) (yg xj gd T.z_len PySem.boot_len (za (zb 2 rfl vZ xM xO) zi zc) xm xl zc zm) zh (yv _)) (Ze (wZ (Yo hr.units) (zb 7 rfl zoe zlZ zl0) (xY zi) (yv _)))) (yv _)))))
    zu))))))))))))
end
theorem yn (T : Txt K mg F FD TK) : ∀ n i, FnOk Pg w K mg base xx n (F i) (FD i) (ye i) (vc K (zR U fuel n) i (zda i))
  | 0, _ => zia
  | n + 1, 0 => yp (F0 := ⟨3, 3, YG, [], none⟩) T.n0.f zl7 rfl rfl rfl rfl (by decide) rfl (zot T (yn T n))
  | n + 1, 1 => yp (F0 := ⟨1, 1, YH, [], none⟩) T.n1.f zmc rfl rfl rfl rfl (by decide) rfl (zou T (yn T n))
  | n + 1, 2 => yp (F0 := ⟨1, 1, YI, [], none⟩) T.n2.f zmg rfl rfl rfl rfl (by decide) rfl (zov T (yn T n))
  | n + 1, 3 => yp (F0 := ⟨1, 1, YJ, [], none⟩) T.n3.f zmi rfl rfl rfl rfl (by decide) rfl (zow T (yn T n))
  | n + 1, 4 => yp (F0 := ⟨1, 1, YK, [], none⟩) T.n4.f zml rfl rfl rfl rfl (by decide) rfl (zox T (yn T n))
  | n + 1, 5 => yp (F0 := ⟨1, 1, YL, [], none⟩) T.n5.f zmq rfl rfl rfl rfl (by decide) rfl (zoy T (yn T n))
  | n + 1, 6 => yp (F0 := ⟨1, 1, YM, [], none⟩) T.n6.f zmx rfl rfl rfl rfl (by decide) rfl (zoz T (yn T n))
  | n + 1, 7 => yp (F0 := ⟨1, 1, YN, [], none⟩) T.n7.f zmz rfl rfl rfl rfl (by decide) rfl (zoA T (yn T n))
  | n + 1, 8 => zH rfl
  | n + 1, 9 => yp (F0 := ⟨2, 2, YO, [], none⟩) T.n9.f zmB rfl rfl rfl rfl (by decide) rfl (zoB T (yn T n))
  | n + 1, 10 => yp (F0 := ⟨3, 3, YQ, [], none⟩) T.n10.f zmE rfl rfl rfl rfl (by decide) rfl (zoC T (yn T n))
  | n + 1, 11 => zH rfl
  | n + 1, 12 => zH rfl
  | n + 1, 13 => yp (F0 := ⟨2, 2, YR, [], none⟩) T.n13.f zmH rfl rfl rfl rfl (by decide) rfl (zoD T (yn T n))
  | n + 1, 14 => yp (F0 := ⟨3, 3, YS, [], none⟩) T.n14.f zmJ rfl rfl rfl rfl (by decide) rfl (zoE T (yn T n))
  | n + 1, 15 => yp (F0 := ⟨3, 13, YU, [], none⟩) T.n15.f wy rfl rfl rfl rfl (by decide) rfl (zoF T (yn T n))
  | n + 1, 16 => yp (F0 := ⟨1, 2, YV, [], none⟩) T.n16.f zd9 rfl rfl rfl rfl (by decide) rfl (zoG T (yn T n))
  | n + 1, 17 => yp (F0 := ⟨3, 3, YW, [], none⟩) T.n17.f zm2 rfl rfl rfl rfl (by decide) rfl (zoH T (yn T n))
  | n + 1, 18 => zH rfl
  | n + 1, 19 => zH rfl
  | n + 1, 20 => zH rfl
  | n + 1, 21 => zH rfl
  | n + 1, 22 => zH rfl
  | n + 1, 23 => zH rfl
  | n + 1, 24 => zH rfl
  | n + 1, 25 => zH rfl
  | n + 1, 26 => zH rfl
  | n + 1, 27 => zH rfl
  | n + 1, 28 => zH rfl
  | n + 1, 29 => zH rfl
  | n + 1, 30 => zH rfl
  | n + 1, 31 => zH rfl
  | n + 1, 32 => zH rfl
  | n + 1, 33 => zH rfl
  | n + 1, 34 => zH rfl
  | n + 1, 35 => zH rfl
  | n + 1, 36 => zH rfl
  | n + 1, 37 => zH rfl
  | n + 1, 38 => zH rfl
  | n + 1, 39 => zH rfl
  | n + 1, 40 => zH rfl
  | n + 1, 41 => zH rfl
  | n + 1, 42 => zH rfl
  | n + 1, 43 => zH rfl
  | n + 1, 44 => zH rfl
  | n + 1, 45 => zH rfl
  | n + 1, 46 => zH rfl
  | n + 1, 47 => zH rfl
  | n + 1, 48 => zH rfl
  | n + 1, 49 => zH rfl
  | n + 1, 50 => zH rfl
  | n + 1, 51 => zH rfl
  | n + 1, 52 => zH rfl
  | n + 1, 53 => zH rfl
  | n + 1, 54 => zH rfl
  | n + 1, 55 => zH rfl
  | n + 1, 56 => zH rfl
  | n + 1, 57 => zH rfl
  | n + 1, 58 => zH rfl
  | n + 1, 59 => zH rfl
  | n + 1, 60 => zH rfl
  | n + 1, 61 => yp (F0 := ⟨2, 2, YX, [], none⟩) T.n61.f zm6 rfl rfl rfl rfl (by decide) rfl (zoI T (yn T n))
  | n + 1, 62 => yp (F0 := ⟨3, 3, YY, [], none⟩) T.n62.f zna rfl rfl rfl rfl (by decide) rfl (zoJ T (yn T n))
  | n + 1, 63 => yp (F0 := ⟨2, 4, YZ, [], none⟩) T.n63.f qR rfl rfl rfl rfl (by decide) rfl (zoK T (yn T n))
  | n + 1, 64 => yp (F0 := ⟨2, 6, Xa, [], none⟩) T.n64.f Xx rfl rfl rfl rfl (by decide) rfl (zoL T (yn T n))
  | n + 1, 65 => yp (F0 := ⟨2, 3, Xb, [], none⟩) T.n65.f zeh rfl rfl rfl rfl (by decide) rfl (zoM T (yn T n))
  | n + 1, 66 => yp (F0 := ⟨4, 9, Zt, [], none⟩) T.n66.f vY rfl rfl rfl rfl (by decide) rfl (zoN T (yn T n))
  | n + 1, 67 => yp (F0 := ⟨2, 4, Zu, [], none⟩) T.n67.f qY rfl rfl rfl rfl (by decide) rfl (zoO T (yn T n))
  | n + 1, 68 => yp (F0 := ⟨2, 3, jr, [], none⟩) T.n68.f zep rfl rfl rfl rfl (by decide) rfl (zoP T (yn T n))
  | n + 1, 69 => zH rfl
  | n + 1, 70 => zH rfl
  | n + 1, 71 => zH rfl
  | n + 1, 72 => zH rfl
  | n + 1, 73 => zH rfl
  | n + 1, 74 => yp (F0 := ⟨3, 3, Xc, [], none⟩) T.n74.f znV rfl rfl rfl rfl (by decide) rfl (zoQ T (yn T n))
  | n + 1, 75 => yp (F0 := ⟨3, 11, Xd, [], none⟩) T.n75.f vJ rfl rfl rfl rfl (by decide) rfl (zoR T (yn T n))
  | n + 1, 76 => yp (F0 := ⟨1, 8, Xe, [], none⟩) T.n76.f vK rfl rfl rfl rfl (by decide) rfl (zoS T (yn T n))
  | n + 1, _ + 77 => zH rfl
theorem zoT {h : Heap} (X : K.In h) (G : h.Ns mainGlobals mg) {f0 f1 f2 f3 f4 f5 f6 f7 f9 f10 f13 f14 f15 f16 f17 f61 f62 f63 f64 f65 f66 f67 f68 f74 f75 f76 : Addr} {od0 od1 od2 od3 od4 od5 od6 od7 od9 od10 od13 od14 od15 od16 od17 od61 od62 od63 od64 od65 od66 od67 od68 od74 od75 od76 an0 an1 an2 an3 an4 an5 an6 an7 an9 an10 an13 an14 an15 an16 an17 an61 an62 an63 an64 an65 an66 an67 an68 an74 an75 an76 : Option Addr} {sl0 sl1 sl2 sl3 sl4 sl5 sl6 sl7 sl9 sl10 sl13 sl14 sl15 sl16 sl17 sl61 sl62 sl63 sl64 sl65 sl66 sl67 sl68 sl74 sl75 sl76 : Array (Option Value)} {oc0 oc1 oc2 oc3 oc4 oc5 oc6 oc7 oc9 oc10 oc13 oc14 oc15 oc16 oc17 oc61 oc62 oc63 oc64 oc65 oc66 oc67 oc68 oc74 oc75 oc76 kV0 kV1 kV2 kV3 kV4 kV5 kV6 kV7 kV9 kV10 kV13 kV14 kV15 kV16 kV17 kV61 kV62 kV63 kV64 kV65 kV66 kV67 kV68 kV74 kV75 kV76 dc0 dc1 dc2 dc3 dc4 dc5 dc6 dc7 dc9 dc10 dc13 dc14 dc15 dc16 dc17 dc61 dc62 dc63 dc64 dc65 dc66 dc67 dc68 dc74 dc75 dc76 pm0 pm1 pm2 pm3 pm4 pm5 pm6 pm7 pm9 pm10 pm13 pm14 pm15 pm16 pm17 pm61 pm62 pm63 pm64 pm65 pm66 pm67 pm68 pm74 pm75 pm76 cd0 cd1 cd2 cd3 cd4 cd5 cd6 cd7 cd9 cd10 cd13 cd14 cd15 cd16 cd17 cd61 cd62 cd63 cd64 cd65 cd66 cd67 cd68 cd74 cd75 cd76 ct0 ct1 ct2 ct3 ct4 ct5 ct6 ct7 ct9 ct10 ct13 ct14 ct15 ct16 ct17 ct61 ct62 ct63 ct64 ct65 ct66 ct67 ct68 ct74 ct75 ct76 : Value} {t0 t1 t2 t3 : Tok}
    (h0 : fH K f0 oc0 od0 kV0 dc0 pm0 an0 cd0 ct0 sl0 "is_whole" 9)
    (h1 : fH K f1 oc1 od1 kV1 dc1 pm1 an1 cd1 ct1 sl1 "is_couple" 10)
    (h2 : fH K f2 oc2 od2 kV2 dc2 pm2 an2 cd2 ct2 sl2 "is_cell" 11)
    (h3 : fH K f3 oc3 od3 kV3 dc3 pm3 an3 cd3 ct3 sl3 "is_leap" 12)
    (h4 : fH K f4 oc4 od4 kV4 dc4 pm4 an4 cd4 ct4 sl4 "is_rising" 13)
    (h5 : fH K f5 oc5 od5 kV5 dc5 pm5 an5 cd5 ct5 sl5 "is_floor" 14)
    (h6 : fH K f6 oc6 od6 kV6 dc6 pm6 an6 cd6 ct6 sl6 "checked" 15)
    (h7 : fH K f7 oc7 od7 kV7 dc7 pm7 an7 cd7 ct7 sl7 "checked_leap" 16)
    (h9 : fH K f9 oc9 od9 kV9 dc9 pm9 an9 cd9 ct9 sl9 "folded" 18)
    (h10 : fH K f10 oc10 od10 kV10 dc10 pm10 an10 cd10 ct10 sl10 "are_near" 19)
    (h13 : fH K f13 oc13 od13 kV13 dc13 pm13 an13 cd13 ct13 sl13 "_law_cell" 31)
    (h14 : fH K f14 oc14 od14 kV14 dc14 pm14 an14 cd14 ct14 sl14 "_law_mix" 32)
    (h15 : fH K f15 oc15 od15 kV15 dc15 pm15 an15 cd15 ct15 sl15 "_law_floor" 33)
    (h16 : fH K f16 oc16 od16 kV16 dc16 pm16 an16 cd16 ct16 sl16 "_law_leap" 34)
    (h17 : fH K f17 oc17 od17 kV17 dc17 pm17 an17 cd17 ct17 sl17 "_law_is_near" 35)
    (h61 : fH K f61 oc61 od61 kV61 dc61 pm61 an61 cd61 ct61 sl61 "refuse_big" 22)
    (h62 : fH K f62 oc62 od62 kV62 dc62 pm62 an62 cd62 ct62 sl62 "bits_near" 23)
    (h63 : fH K f63 oc63 od63 kV63 dc63 pm63 an63 cd63 ct63 sl63 "one_cell_walks" 24)
    (h64 : fH K f64 oc64 od64 kV64 dc64 pm64 an64 cd64 ct64 sl64 "one_cell_longer" 25)
    (h65 : fH K f65 oc65 od65 kV65 dc65 pm65 an65 cd65 ct65 sl65 "layers_from" 26)
    (h66 : fH K f66 oc66 od66 kV66 dc66 pm66 an66 cd66 ct66 sl66 "walk_between" 27)
    (h67 : fH K f67 oc67 od67 kV67 dc67 pm67 an67 cd67 ct67 sl67 "walk" 28)
    (h68 : fH K f68 oc68 od68 kV68 dc68 pm68 an68 cd68 ct68 sl68 "ring_walk" 29)
    (h74 : fH K f74 oc74 od74 kV74 dc74 pm74 an74 cd74 ct74 sl74 "_law_is_walk" 36)
    (h75 : fH K f75 oc75 od75 kV75 dc75 pm75 an75 cd75 ct75 sl75 "_law_ends" 37)
    (h76 : fH K f76 oc76 od76 kV76 dc76 pm76 an76 cd76 ct76 sl76 "law" 38)
    (z_isinstance : PySem.W.nsIn K mainGlobals "isinstance" = some none)
    (z_int : PySem.W.nsIn K mainGlobals "int" = some none)
    (z_bool : PySem.W.nsIn K mainGlobals "bool" = some none)
    (z_len : PySem.W.nsIn K mainGlobals "len" = some none)
    (z_tuple : PySem.W.nsIn K mainGlobals "tuple" = some none)
    (z_range : PySem.W.nsIn K mainGlobals "range" = some none)
    (z_all : PySem.W.nsIn K mainGlobals "all" = some none)
    (z_abs : PySem.W.nsIn K mainGlobals "abs" = some none)
    (z_max : PySem.W.nsIn K mainGlobals "max" = some none)
    (z_min : PySem.W.nsIn K mainGlobals "min" = some none)
    (z_enumerate : PySem.W.nsIn K mainGlobals "enumerate" = some none)
    (z_sum : PySem.W.nsIn K mainGlobals "sum" = some none)
    (z_reversed : PySem.W.nsIn K mainGlobals "reversed" = some none)
    (z_sorted : PySem.W.nsIn K mainGlobals "sorted" = some none)
    (z_list : PySem.W.nsIn K mainGlobals "list" = some none)
    (c0 : PySem.W.nsIn K mainGlobals "LAST_LINE" = some (some (.int 7 t0)))
    (c1 : PySem.W.nsIn K mainGlobals "MOST_CELLS" = some (some (.int 24 t1)))
    (c2 : PySem.W.nsIn K mainGlobals "LONGEST_LEAP" = some (some (.int 4 t2)))
    (c3 : PySem.W.nsIn K mainGlobals "MOST_TO_WALK" = some (some (.int 16 t3)))
    : ∃ F FD TK, Txt K mg F FD TK ∧ F 76 = f76 ∧ (∀ (s : Shared) (u : Value), BindsTo s (FD 76) ⟨[u], []⟩ [("_law_script", u)]) :=
  let adF : Nat → Addr := fun i => match i with
    | 1 => f1
    | 2 => f2
    | 3 => f3
    | 4 => f4
    | 5 => f5
    | 6 => f6
    | 7 => f7
    | 9 => f9
    | 10 => f10
    | 13 => f13
    | 14 => f14
    | 15 => f15
    | 16 => f16
    | 17 => f17
    | 61 => f61
    | 62 => f62
    | 63 => f63
    | 64 => f64
    | 65 => f65
    | 66 => f66
    | 67 => f67
    | 68 => f68
    | 74 => f74
    | 75 => f75
    | 76 => f76
    | _ => f0
  ⟨adF,
    fun i => Xq K (adF i),
    fun i => [t0, t1, t2, t3].getD i 0,
    {
      n0 := yt X G h0 rfl fun _ _ _ _ _ _ => vP (fun _ _ _ => rfl)
      n1 := yt X G h1 rfl fun _ _ _ _ _ _ => vy (fun _ => rfl)
      n2 := yt X G h2 rfl fun _ _ _ _ _ _ => vy (fun _ => rfl)
      n3 := yt X G h3 rfl fun _ _ _ _ _ _ => vy (fun _ => rfl)
      n4 := yt X G h4 rfl fun _ _ _ _ _ _ => vy (fun _ => rfl)
      n5 := yt X G h5 rfl fun _ _ _ _ _ _ => vy (fun _ => rfl)
      n6 := yt X G h6 rfl fun _ _ _ _ _ _ => vy (fun _ => rfl)
      n7 := yt X G h7 rfl fun _ _ _ _ _ _ => vy (fun _ => rfl)
      n9 := yt X G h9 rfl fun _ _ _ _ _ _ => vO (fun _ _ => rfl)
      n10 := yt X G h10 rfl fun _ _ _ _ _ _ => vP (fun _ _ _ => rfl)
      n13 := yt X G h13 rfl fun _ _ _ _ _ _ => vO (fun _ _ => rfl)
      n14 := yt X G h14 rfl fun _ _ _ _ _ _ => vP (fun _ _ _ => rfl)
      n15 := yt X G h15 rfl fun _ _ _ _ _ _ => vP (fun _ _ _ => rfl)
      n16 := yt X G h16 rfl fun _ _ _ _ _ _ => vy (fun _ => rfl)
      n17 := yt X G h17 rfl fun _ _ _ _ _ _ => vP (fun _ _ _ => rfl)
      n61 := yt X G h61 rfl fun _ _ _ _ _ _ => vO (fun _ _ => rfl)
      n62 := yt X G h62 rfl fun _ _ _ _ _ _ => vP (fun _ _ _ => rfl)
      n63 := yt X G h63 rfl fun _ _ _ _ _ _ => vO (fun _ _ => rfl)
      n64 := yt X G h64 rfl fun _ _ _ _ _ _ => vO (fun _ _ => rfl)
      n65 := yt X G h65 rfl fun _ _ _ _ _ _ => vO (fun _ _ => rfl)
      n66 := yt X G h66 rfl fun _ _ _ _ _ _ => zhr (fun _ _ _ _ => rfl)
      n67 := yt X G h67 rfl fun _ _ _ _ _ _ => vO (fun _ _ => rfl)
      n68 := yt X G h68 rfl fun _ _ _ _ _ _ => vO (fun _ _ => rfl)
      n74 := yt X G h74 rfl fun _ _ _ _ _ _ => vP (fun _ _ _ => rfl)
      n75 := yt X G h75 rfl fun _ _ _ _ _ _ => vP (fun _ _ _ => rfl)
      n76 := yt X G h76 rfl fun _ _ _ _ _ _ => vy (fun _ => rfl)
      z_isinstance := PySem.W.mg_none_of X G z_isinstance
      z_int := PySem.W.mg_none_of X G z_int
      z_bool := PySem.W.mg_none_of X G z_bool
      z_len := PySem.W.mg_none_of X G z_len
      z_tuple := PySem.W.mg_none_of X G z_tuple
      z_range := PySem.W.mg_none_of X G z_range
      z_all := PySem.W.mg_none_of X G z_all
      z_abs := PySem.W.mg_none_of X G z_abs
      z_max := PySem.W.mg_none_of X G z_max
      z_min := PySem.W.mg_none_of X G z_min
      z_enumerate := PySem.W.mg_none_of X G z_enumerate
      z_sum := PySem.W.mg_none_of X G z_sum
      z_reversed := PySem.W.mg_none_of X G z_reversed
      z_sorted := PySem.W.mg_none_of X G z_sorted
      z_list := PySem.W.mg_none_of X G z_list
      c0 := PySem.W.mg_of X G c0
      c1 := PySem.W.mg_of X G c1
      c2 := PySem.W.mg_of X G c2
      c3 := PySem.W.mg_of X G c3
    }, rfl, fun s u => by
      show BindsTo s (Xq K f76) _ _
      rw [zdb h76.l]
      exact .of_eq rfl⟩
end
end LK
namespace LK
open PySem PySem.W L2
noncomputable def en (P : Params) (x : Str) (t : Nat) (v : Value) : DictEntry := ⟨PyData.keyHash P x, .str x t, v⟩
noncomputable def fo (i : Nat) (x m : Str) (t c : Nat) : Obj := ⟨.type "function", none, .func (fnOf x x (jR (zF i)) (vt (zF i)) (zA (zF i)) .none .none .none (.str m t) none (.ref c) .none), #[]⟩
noncomputable def co (x : Str) (t l a r h : Nat) : Obj := ⟨.type "code", none, .fields #[.str x t, .str x (t + 1), .str "/claim/cut.py" (t + 2), .int l 0, .int a 0, .int 0 0, .int 0 0, .int 3 0, .ref r, .bool true, .int 181 0, .ref (r + 1), .none, .ref (r + 2), .ref (r + 3), .ref (r + 4), .int h 0, .int l 0, .str "/claim/cut.py" (h + 1)], #[]⟩
noncomputable def cn (x : Str) (t l a r h : Nat) : Obj := ⟨.type "code", none, .fields #[.str x t, .str x (t + 1), .str "/claim/cut.py" (t + 2), .int l 0, .int a 0, .int 0 0, .int 0 0, .int 3 0, .ref r, .bool true, .int 181 0, .ref (r + 1), .none, .none, .none, .ref (r + 2), .int h 0, .int l 0, .str "/claim/cut.py" (h + 1)], #[]⟩
noncomputable def HK (P : Params) : Frag := [(3, .mk (.type "dict") none (.dict #[en P "__name__" 165 (.str "law_leaperwalk_k08_walks" 414), en P "__doc__" 166 .none, en P "__package__" 167 .none, en P "__loader__" 168 (.builtin "__main__.__loader__#opaque"), en P "__spec__" 169 .none, en P "__annotations__" 170 (.ref 6), en P "__builtins__" 171 (.ref 4), en P "__file__" 173 (.str "/claim/cut.py" 172), en P "__cached__" 174 .none, en P "LeapError" 206 (.ref 24), en P "BadFloor" 222 (.ref 37), en P "BadLeap" 238 (.ref 49), en P "TooBig" 254 (.ref 61), en P "LAST_LINE" 258 (.int 7 257), en P "MOST_CELLS" 260 (.int 24 259), en P "LONGEST_LEAP" 262 (.int 4 261), en P "is_whole" 271 (.ref 70), en P "is_couple" 278 (.ref 77), en P "is_cell" 285 (.ref 84), en P "is_leap" 292 (.ref 91), en P "is_rising" 298 (.ref 96), en P "is_floor" 304 (.ref 101), en P "checked" 311 (.ref 108), en P "checked_leap" 318 (.ref 115), en P "folded" 328 (.ref 122), en P "are_near" 337 (.ref 129), en P "MOST_TO_WALK" 341 (.int 16 340), en P "refuse_big" 349 (.ref 136), en P "bits_near" 355 (.ref 141), en P "one_cell_walks" 365 (.ref 148), en P "one_cell_longer" 377 (.ref 155), en P "layers_from" 386 (.ref 162), en P "walk_between" 401 (.ref 169), en P "walk" 407 (.ref 174), en P "ring_walk" 413 (.ref 179), en P "_law_cell" 423 (.ref 186), en P "_law_mix" 432 (.ref 193), en P "_law_floor" 451 (.ref 200), en P "_law_leap" 459 (.ref 207), en P "_law_is_near" 468 (.ref 214), en P "_law_is_walk" 474 (.ref 219), en P "_law_ends" 480 (.ref 224), en P "law" 486 (.ref 229)] 43) #[]),
  (69, co "is_whole" 263 14 3 64 269),
  (70, fo 9 "is_whole" "leaperwalk.floors" 255 69),
  (76, co "is_couple" 272 18 1 71 276),
  (77, fo 10 "is_couple" "leaperwalk.floors" 255 76),
  (83, co "is_cell" 279 20 1 78 283),
  (84, fo 11 "is_cell" "leaperwalk.floors" 255 83),
  (90, co "is_leap" 286 22 1 85 290),
  (91, fo 12 "is_leap" "leaperwalk.floors" 255 90),
  (95, cn "is_rising" 293 24 1 92 296),
  (96, fo 13 "is_rising" "leaperwalk.floors" 255 95),
  (100, cn "is_floor" 299 26 1 97 302),
  (101, fo 14 "is_floor" "leaperwalk.floors" 255 100),
  (107, co "checked" 305 30 1 102 309),
  (108, fo 15 "checked" "leaperwalk.floors" 255 107),
  (114, co "checked_leap" 312 34 1 109 316),
  (115, fo 16 "checked_leap" "leaperwalk.floors" 255 114),
  (121, co "folded" 321 39 2 116 326),
  (122, fo 18 "folded" "leaperwalk.leaps" 319 121),
  (128, co "are_near" 329 41 3 123 335),
  (129, fo 19 "are_near" "leaperwalk.leaps" 319 128),
  (135, co "refuse_big" 342 45 2 130 347),
  (136, fo 22 "refuse_big" "leaperwalk.walks" 338 135),
  (140, cn "bits_near" 350 48 3 137 353),
  (141, fo 23 "bits_near" "leaperwalk.walks" 338 140),
  (147, co "one_cell_walks" 356 50 2 142 363),
  (148, fo 24 "one_cell_walks" "leaperwalk.walks" 338 147),
  (154, co "one_cell_longer" 366 56 2 149 375),
  (155, fo 25 "one_cell_longer" "leaperwalk.walks" 338 154),
  (161, co "layers_from" 378 64 2 156 384),
  (162, fo 26 "layers_from" "leaperwalk.walks" 338 161),
  (168, co "walk_between" 387 69 4 163 399),
  (169, fo 27 "walk_between" "leaperwalk.walks" 338 168),
  (173, cn "walk" 402 81 2 170 405),
  (174, fo 28 "walk" "leaperwalk.walks" 338 173),
  (178, cn "ring_walk" 408 88 2 175 411),
  (179, fo 29 "ring_walk" "leaperwalk.walks" 338 178),
  (185, co "_law_cell" 416 97 2 180 421),
  (186, fo 31 "_law_cell" "law_leaperwalk_k08_walks" 414 185),
  (192, co "_law_mix" 424 101 3 187 430),
  (193, fo 32 "_law_mix" "law_leaperwalk_k08_walks" 414 192),
  (199, co "_law_floor" 433 103 3 194 449),
  (200, fo 33 "_law_floor" "law_leaperwalk_k08_walks" 414 199),
  (206, co "_law_leap" 452 119 1 201 457),
  (207, fo 34 "_law_leap" "law_leaperwalk_k08_walks" 414 206),
  (213, co "_law_is_near" 460 122 3 208 466),
  (214, fo 35 "_law_is_near" "law_leaperwalk_k08_walks" 414 213),
  (218, cn "_law_is_walk" 469 124 3 215 472),
  (219, fo 36 "_law_is_walk" "law_leaperwalk_k08_walks" 414 218),
  (223, cn "_law_ends" 475 128 3 220 478),
  (224, fo 37 "_law_ends" "law_leaperwalk_k08_walks" 414 223),
  (228, cn "law" 481 144 1 225 484),
  (229, fo 38 "law" "law_leaperwalk_k08_walks" 414 228)]
noncomputable def HA : List Addr := [3, 69, 70, 76, 77, 83, 84, 90, 91, 95, 96, 100, 101, 107, 108, 114, 115, 121, 122, 128, 129, 135, 136, 140, 141, 147, 148, 154, 155, 161, 162, 168, 169, 173, 174, 178, 179, 185, 186, 192, 193, 199, 200, 206, 207, 213, 214, 218, 219, 223, 224, 228, 229]
noncomputable def HQ : Program := view PySem.Challenge.pw_leaperwalk_k08_walks [1, 2, 3, 4, 6, 7, 8, 9, 10, 11, 12, 13, 14, 15, 16, 18, 19, 21, 22, 23, 24, 25, 26, 27, 28, 29, 31, 32, 33, 34, 35, 36, 37, 38]
theorem zoU : ∀ P, HA = (HK P).map (·.1) := fun P => by kernel_rfl
noncomputable def HH : Hook := kHook HK HA zoU
set_option maxHeartbeats 0 in
theorem zoV : LeftO PySem.Challenge.pw_leaperwalk_k08_walks HQ [] (fun s => xlAt HQ [] s && recOk (RowW.records (OpenRow.toRowW (OpenLaw.row PySem.Challenge.rw_leaperwalk_k08_walks))) s) HH.obs HH.val 3482 := by
  intro w
  kernel_rfl
end LK
open PySem PySem.W PyProof.Rows
set_option maxRecDepth 100000 in
set_option maxHeartbeats 0 in
theorem PySem.Challenge.cw_leaperwalk_k08_walks_holds : PySem.Challenge.rw_leaperwalk_k08_walks.Holds := by
  w_on; o_law
  refine PySem.W.holds_open (XP := XL LK.HQ []) LK.zoV (Hook.of LK.HH) (Hook.keeps LK.HH) (fun s e => xl_of s (Bool.and_eq_true_iff.mp e).1) XL.keeps (by rfl) (by rfl) (by rfl) (fun s e => recFacts_of (Bool.and_eq_true_iff.mp e).2) (by rfl) (by assumption) (by decide +kernel) ⟨rfl, rfl, rfl, rfl, rfl, by decide +kernel⟩ ?hw ?hc
  case hw => w_witness2
  refine L2.zgz (K := LK.HK) (l := PySem.Challenge.rw_leaperwalk_k08_walks) (n := 63) (k := LK.depth) (x := "_law_script") (CX := L2.xx) (sp := fun K => L2.LW.vc K (L2.LW.zR LK.U LK.zp LK.depth) 76 []) rfl (by decide) rfl ⟨rfl, by decide, by decide⟩ (fun w h Y => Y) ?F ?S ?C
  case F =>
    intro w mg fa h KX G hmg
    have l0 : List.lookup 70 (LK.HK w.params) = some (LK.fo 9 "is_whole" "leaperwalk.floors" 255 69) := by kernel_rfl
    have l1 : List.lookup 77 (LK.HK w.params) = some (LK.fo 10 "is_couple" "leaperwalk.floors" 255 76) := by kernel_rfl
    have l2 : List.lookup 84 (LK.HK w.params) = some (LK.fo 11 "is_cell" "leaperwalk.floors" 255 83) := by kernel_rfl
    have l3 : List.lookup 91 (LK.HK w.params) = some (LK.fo 12 "is_leap" "leaperwalk.floors" 255 90) := by kernel_rfl
    have l4 : List.lookup 96 (LK.HK w.params) = some (LK.fo 13 "is_rising" "leaperwalk.floors" 255 95) := by kernel_rfl
    have l5 : List.lookup 101 (LK.HK w.params) = some (LK.fo 14 "is_floor" "leaperwalk.floors" 255 100) := by kernel_rfl
    have l6 : List.lookup 108 (LK.HK w.params) = some (LK.fo 15 "checked" "leaperwalk.floors" 255 107) := by kernel_rfl
    have l7 : List.lookup 115 (LK.HK w.params) = some (LK.fo 16 "checked_leap" "leaperwalk.floors" 255 114) := by kernel_rfl
    have l9 : List.lookup 122 (LK.HK w.params) = some (LK.fo 18 "folded" "leaperwalk.leaps" 319 121) := by kernel_rfl
    have l10 : List.lookup 129 (LK.HK w.params) = some (LK.fo 19 "are_near" "leaperwalk.leaps" 319 128) := by kernel_rfl
    have l13 : List.lookup 186 (LK.HK w.params) = some (LK.fo 31 "_law_cell" "law_leaperwalk_k08_walks" 414 185) := by kernel_rfl
    have l14 : List.lookup 193 (LK.HK w.params) = some (LK.fo 32 "_law_mix" "law_leaperwalk_k08_walks" 414 192) := by kernel_rfl
    have l15 : List.lookup 200 (LK.HK w.params) = some (LK.fo 33 "_law_floor" "law_leaperwalk_k08_walks" 414 199) := by kernel_rfl
    have l16 : List.lookup 207 (LK.HK w.params) = some (LK.fo 34 "_law_leap" "law_leaperwalk_k08_walks" 414 206) := by kernel_rfl
    have l17 : List.lookup 214 (LK.HK w.params) = some (LK.fo 35 "_law_is_near" "law_leaperwalk_k08_walks" 414 213) := by kernel_rfl
    have l61 : List.lookup 136 (LK.HK w.params) = some (LK.fo 22 "refuse_big" "leaperwalk.walks" 338 135) := by kernel_rfl
    have l62 : List.lookup 141 (LK.HK w.params) = some (LK.fo 23 "bits_near" "leaperwalk.walks" 338 140) := by kernel_rfl
    have l63 : List.lookup 148 (LK.HK w.params) = some (LK.fo 24 "one_cell_walks" "leaperwalk.walks" 338 147) := by kernel_rfl
    have l64 : List.lookup 155 (LK.HK w.params) = some (LK.fo 25 "one_cell_longer" "leaperwalk.walks" 338 154) := by kernel_rfl
    have l65 : List.lookup 162 (LK.HK w.params) = some (LK.fo 26 "layers_from" "leaperwalk.walks" 338 161) := by kernel_rfl
    have l66 : List.lookup 169 (LK.HK w.params) = some (LK.fo 27 "walk_between" "leaperwalk.walks" 338 168) := by kernel_rfl
    have l67 : List.lookup 174 (LK.HK w.params) = some (LK.fo 28 "walk" "leaperwalk.walks" 338 173) := by kernel_rfl
    have l68 : List.lookup 179 (LK.HK w.params) = some (LK.fo 29 "ring_walk" "leaperwalk.walks" 338 178) := by kernel_rfl
    have l74 : List.lookup 219 (LK.HK w.params) = some (LK.fo 36 "_law_is_walk" "law_leaperwalk_k08_walks" 414 218) := by kernel_rfl
    have l75 : List.lookup 224 (LK.HK w.params) = some (LK.fo 37 "_law_ends" "law_leaperwalk_k08_walks" 414 223) := by kernel_rfl
    have l76 : List.lookup 229 (LK.HK w.params) = some (LK.fo 38 "law" "law_leaperwalk_k08_walks" 414 228) := by kernel_rfl
    obtain ⟨F, FD, TK, T, e0, hb⟩ := LK.zoT (t0 := 257) (t1 := 259) (t2 := 261) (t3 := 340) KX G ⟨by kernel_rfl, l0, by kernel_rfl, by kernel_rfl⟩ ⟨by kernel_rfl, l1, by kernel_rfl, by kernel_rfl⟩ ⟨by kernel_rfl, l2, by kernel_rfl, by kernel_rfl⟩ ⟨by kernel_rfl, l3, by kernel_rfl, by kernel_rfl⟩ ⟨by kernel_rfl, l4, by kernel_rfl, by kernel_rfl⟩ ⟨by kernel_rfl, l5, by kernel_rfl, by kernel_rfl⟩ ⟨by kernel_rfl, l6, by kernel_rfl, by kernel_rfl⟩ ⟨by kernel_rfl, l7, by kernel_rfl, by kernel_rfl⟩ ⟨by kernel_rfl, l9, by kernel_rfl, by kernel_rfl⟩ ⟨by kernel_rfl, l10, by kernel_rfl, by kernel_rfl⟩ ⟨by kernel_rfl, l13, by kernel_rfl, by kernel_rfl⟩ ⟨by kernel_rfl, l14, by kernel_rfl, by kernel_rfl⟩ ⟨by kernel_rfl, l15, by kernel_rfl, by kernel_rfl⟩ ⟨by kernel_rfl, l16, by kernel_rfl, by kernel_rfl⟩ ⟨by kernel_rfl, l17, by kernel_rfl, by kernel_rfl⟩ ⟨by kernel_rfl, l61, by kernel_rfl, by kernel_rfl⟩ ⟨by kernel_rfl, l62, by kernel_rfl, by kernel_rfl⟩ ⟨by kernel_rfl, l63, by kernel_rfl, by kernel_rfl⟩ ⟨by kernel_rfl, l64, by kernel_rfl, by kernel_rfl⟩ ⟨by kernel_rfl, l65, by kernel_rfl, by kernel_rfl⟩ ⟨by kernel_rfl, l66, by kernel_rfl, by kernel_rfl⟩ ⟨by kernel_rfl, l67, by kernel_rfl, by kernel_rfl⟩ ⟨by kernel_rfl, l68, by kernel_rfl, by kernel_rfl⟩ ⟨by kernel_rfl, l74, by kernel_rfl, by kernel_rfl⟩ ⟨by kernel_rfl, l75, by kernel_rfl, by kernel_rfl⟩ ⟨by kernel_rfl, l76, by kernel_rfl, by kernel_rfl⟩ (by kernel_rfl) (by kernel_rfl) (by kernel_rfl) (by kernel_rfl) (by kernel_rfl) (by kernel_rfl) (by kernel_rfl) (by kernel_rfl) (by kernel_rfl) (by kernel_rfl) (by kernel_rfl) (by kernel_rfl) (by kernel_rfl) (by kernel_rfl) (by kernel_rfl) (by kernel_rfl) (by kernel_rfl) (by kernel_rfl) (by kernel_rfl)
    have e1 := hmg.symm.trans T.n76.m
    cases e1
    exact ⟨_, hb, fun base _ _ => LK.yn T LK.depth 76⟩
  case S => exact fun K H a ns hl _ hS => L2.LW.zib (LK.zll ns hl) hS
  case C => exact fun _ _ _ _ z => z
