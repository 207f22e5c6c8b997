import PyProof.Rows.All
import Wide.All
import OpenK.AllK
import Wide.FinOn
import Lean
import PyProof.EqAt
import PyProof.EqKinds
import PyProof.TupleCall
import PyProof.SeqI3
import KE.KTupSum
import KE.LcSums
import KE.KDictSum
import KE.KTryMore
import PyProof.ExcBaseAll.ValueError
import OpenK.KOwn
import KE.RegKTryMore
import KE.RegKIsAll
import PyProof.ListMulRoad
import PyProof.Draws
import PyProof.EnumStmt
import PyProof.EnumMake
import PyProof.StrLawsTight
import PyProof.StrLawsChain
import PyProof.Rows.StrNews
import PyProof.Rows.StrJoin2
import PyProof.Rows.EnumRows
import PySem.Challenge.RW_leaperwalk_k01_floors
set_option Elab.async false
set_option linter.all false
set_option maxRecDepth 100000
theorem jo1 {a b : Type} {x : Option a} {f : a → Option b} {y : b} : x.bind f = some y ↔ ∃ z, x = some z ∧ f z = some y := Option.bind_eq_some_iff
theorem jo2 {a b : Type} {x : Option a} {f : a → b} {y : b} : x.map f = some y ↔ ∃ z, x = some z ∧ f z = y := Option.map_eq_some_iff
set_option Elab.async false
set_option maxRecDepth 100000
namespace L2
open PySem PySem.Spec PyProof.Rows
noncomputable abbrev Key := Sum Int Str
noncomputable def zin : Key → Value → Bool
  | .inl k, v => Value.isInt k v
  | .inr x, v => Value.isStrOf x v
noncomputable def zvj (w : World) : Key → Int
  | .inl k => hashInt k
  | .inr x => hashStr w x
theorem za5 : ∀ {k : Key} {v : Value}, zin k v = true → (∃ i t, k = Sum.inl i ∧ v = Value.int i t) ∨ (∃ x t, k = Sum.inr x ∧ v = Value.str x t)
  | .inl i, v, h => by
    obtain ⟨t, e⟩ := Value.isInt_shape (k := i) (v := v) h
    exact .inl ⟨i, t, rfl, e⟩
  | .inr x, v, h => by
    obtain ⟨t, e⟩ := Value.isStrOf_shape (x := x) (v := v) h
    exact .inr ⟨x, t, rfl, e⟩
theorem zjl (i : Int) (t : Tok) : zin (.inl i) (.int i t) = true := by simp [zin, Value.isInt]
theorem zjm (x : Str) (t : Tok) : zin (.inr x) (.str x t) = true := by simp [zin, Value.isStrOf]
theorem zoF (a b : Int) : decide ((Sum.inl a : Key) = Sum.inl b) = (a == b) := by
  by_cases e : a = b
  · subst e; simp
  · have h : ¬ (Sum.inl a : Key) = Sum.inl b := fun q => e (Sum.inl.inj q)
    rw [decide_eq_false h]
    exact (beq_eq_false_iff_ne.mpr e).symm
theorem zoG (a b : Str) : decide ((Sum.inr a : Key) = Sum.inr b) = decide (a = b) := by
  by_cases e : a = b
  · subst e; simp
  · have h : ¬ (Sum.inr a : Key) = Sum.inr b := fun q => e (Sum.inr.inj q)
    rw [decide_eq_false h, decide_eq_false e]
theorem zoH (a : Int) (b : Str) : decide ((Sum.inl a : Key) = Sum.inr b) = false := decide_eq_false (fun q => nomatch q)
theorem zoI (a : Str) (b : Int) : decide ((Sum.inr a : Key) = Sum.inl b) = false := decide_eq_false (fun q => nomatch q)
noncomputable def zbH (prog : Program) (w : World) : PySem.KeyKind prog w Key where
  is := zin
  hash := zvj w
  inj := fun v a b ha hb => by
    rcases za5 ha with ⟨i, t, rfl, rfl⟩ | ⟨x, t, rfl, rfl⟩
    · rcases za5 hb with ⟨j, u, rfl, e⟩ | ⟨y, u, rfl, e⟩
      · injection e with e1 _; rw [e1]
      · exact nomatch e
    · rcases za5 hb with ⟨j, u, rfl, e⟩ | ⟨y, u, rfl, e⟩
      · exact nomatch e
      · injection e with e1 _; rw [e1]
  byValue := fun k v h => by
    rcases za5 h with ⟨i, t, rfl, rfl⟩ | ⟨x, t, rfl, rfl⟩ <;> rfl
  pyHash := fun hv h => by
    rcases za5 hv with ⟨i, t, rfl, rfl⟩ | ⟨x, t, rfl, rfl⟩
    · exact wpAny_pyHash_int h
    · exact wpAny_pyHash_str h
  eqBool := fun hu hv h => by
    rcases za5 hu with ⟨i, t, rfl, rfl⟩ | ⟨x, t, rfl, rfl⟩
    · rcases za5 hv with ⟨j, u, rfl, rfl⟩ | ⟨y, u, rfl, rfl⟩
      · rw [zoF] at h; exact wpAny_eqBool_int h
      · rw [zoH] at h; exact SeqAt.EqAt.int_str i t y u _ _ _ _ h
    · rcases za5 hv with ⟨j, u, rfl, rfl⟩ | ⟨y, u, rfl, rfl⟩
      · rw [zoI] at h; exact SeqAt.EqAt.str_int x t j u _ _ _ _ h
      · rw [zoG] at h; exact wpAny_eqBool_str h
  «strs» := fun k x t v h => by
    rcases za5 h with ⟨i, u, rfl, e⟩ | ⟨y, u, rfl, e⟩
    · exact nomatch e
    · injection e with e1 _
      subst e1
      cases v <;> rfl
theorem zhe (prog : Program) (w : World) (i : Int) (t : Tok) : (zbH prog w).is (.inl i) (.int i t) = true := zjl i t
theorem zhf (prog : Program) (w : World) (x : Str) (t : Tok) : (zbH prog w).is (.inr x) (.str x t) = true := zjm x t
end L2
namespace L2
open PySem PySem.Spec PyProof.Rows
inductive V where
  | non | bl (b : Bool) | int (i : Int) | str (x : Str) | byt (b : Array UInt8) | flt (b : UInt64) | ref (a : Addr) | ty (n : String)
  deriving DecidableEq
noncomputable def RelV : V → Value → Prop
  | .non, u => u = Value.none
  | .bl b, u => u = Value.bool b
  | .int i, u => ∃ t, u = Value.int i t
  | .str x, u => ∃ t, u = Value.str x t
  | .byt b, u => ∃ t, u = Value.bytes b t
  | .flt b, u => ∃ t, u = Value.float b t
  | .ref a, u => u = Value.ref a
  | .ty n, u => u = Value.type n
noncomputable abbrev Vals : List V → List Value → Prop := Paired RelV
theorem Vals.length {xs : List V} {us : List Value} (r : Vals xs us) : xs.length = us.length := Paired.length r
theorem Vals.get : ∀ {xs : List V} {us : List Value} {i : Nat} {x : V}, Vals xs us → xs[i]? = some x → ∃ u, us[i]? = some u ∧ RelV x u
  | _, _, _, _, .nil, e => by simp at e
  | _, _, 0, _, .cons r _, e => by simp at e; subst e; exact ⟨_, rfl, r⟩
  | _, _, i + 1, x, .cons _ t, e => by
    obtain ⟨u, h1, h2⟩ := Vals.get (i := i) (x := x) t (by simpa using e)
    exact ⟨u, by simpa using h1, h2⟩
theorem Vals.set {x : V} {u : Value} (r : RelV x u) : ∀ {xs : List V} {us : List Value} (i : Nat), Vals xs us → Vals (xs.set i x) (us.set i u)
  | _, _, _, .nil => .nil
  | _, _, 0, .cons _ t => .cons r t
  | _, _, i + 1, .cons q t => .cons q (Vals.set r i t)
theorem Vals.append : ∀ {xs ys : List V} {us ws : List Value}, Vals xs us → Vals ys ws → Vals (xs ++ ys) (us ++ ws)
  | _, _, _, _, .nil, s => s
  | _, _, _, _, .cons r t, s => .cons r (Vals.append t s)
theorem Vals.take : ∀ {xs : List V} {us : List Value} (n : Nat), Vals xs us → Vals (xs.take n) (us.take n)
  | _, _, 0, _ => .nil
  | _, _, _ + 1, .nil => .nil
  | _, _, n + 1, .cons r t => .cons r (Vals.take n t)
theorem Vals.drop : ∀ {xs : List V} {us : List Value} (n : Nat), Vals xs us → Vals (xs.drop n) (us.drop n)
  | _, _, 0, r => r
  | _, _, _ + 1, .nil => .nil
  | _, _, n + 1, .cons _ t => Vals.drop n t
noncomputable def RelO : Option V → Option Value → Prop
  | some v, some u => RelV v u
  | none, none => True
  | _, _ => False
noncomputable def KV {κ : Type} : List (κ × V) → List (κ × Value) → Prop := Paired fun (p : κ × V) (q : κ × Value) => p.1 = q.1 ∧ RelV p.2 q.2
noncomputable def kV : Key → V
  | .inl i => .int i
  | .inr x => .str x
inductive HO where
  | lst (xs : List V)
  | tup (xs : List V)
  | dK (kvs : List (Key × V)) | dT (kvs : List (List Key × V))
  | set (S : Int → Bool) (n : Nat)
  | ins (C dx : Addr) (fs : List (Str × V))
  | own (x : Addr)
  | xd (fs : List (Str × V))
  | met (f x : Addr)
  | rng (lo hi : Int)
  | frz (o : Obj) (u : HO)
  | tbl (ps : Array Value)
  | ext (φ : Heap → Prop)
noncomputable abbrev Hp := Addr → Option HO
noncomputable def upd (H : Hp) (a : Addr) (o : HO) : Hp := fun b => if b = a then some o else H b
theorem zbx {H : Hp} {a : Addr} {o : HO} : upd H a o a = some o := by unfold upd; rw [if_pos rfl]
theorem za4 {H : Hp} {a b : Addr} {o : HO} (h : b ≠ a) : upd H a o b = H b := by unfold upd; rw [if_neg h]
theorem zbG {H : Hp} {a b : Addr} {o : HO} (h : H a = some o) (h' : H b = none) : a ≠ b := by
  intro e; subst e; rw [h] at h'; cases h'
section
variable (P : Program) (w : World)
noncomputable def ObjOk (H : Hp) (h : Heap) (a : Addr) : HO → Prop
  | .lst xs => xs.length ≤ sizeLine ∧ ∃ (its : List Value) (n : Nat), Vals xs its ∧ h.get? a = some { cls := .type "list", data := .seq its.toArray n }
  | .tup xs => xs.length ≤ sizeLine ∧ ∃ its : List Value, Vals xs its ∧ IsTup h a its.toArray
  | .dK kvs => kvs.length ≤ sizeLine ∧ (a == sysModules) = false ∧ ∃ vs, KV kvs vs ∧ h.DictOf (zbH P w) a vs
  | .dT kvs => kvs.length ≤ sizeLine ∧ (a == sysModules) = false ∧ ∃ xs : List (List Key × Addr × Value),
      Paired (fun (p : List Key × V) (q : List Key × Addr × Value) => p.1 = q.1 ∧ H q.2.1 = some (.tup (p.1.map kV)) ∧ RelV p.2 q.2.2) kvs xs ∧
      ∃ o es ep, h.get? a = some o ∧ o.ExactDict ∧ o.data = .dict es ep ∧ es.toList = xs.map (entryOfKey (tupleKind (zbH P w))) ∧ (xs.map (·.1)).Nodup
  | .set S n => h.SetOf (intKind P w) a S n
  | .ins C dx fs => H dx = some (.own a) ∧ fs.length ≤ 1000 ∧ dx ≠ a ∧ h.get? a = some (PySem.W.instObj C dx) ∧
      ∃ mA, h.Ns1 dx mA ∧ (∀ f, RelO (fs.lookup f) (mA f)) ∧ PySem.Within mA (fs.map (·.1))
  | .own _ => ∃ o, h.get? a = some o
  | .xd fs => ∃ mA, h.Ns1 a mA ∧ ∀ f, RelO (fs.lookup f) (mA f)
  | .rng lo hi => ∃ t u v, h.get? a = some { cls := .type "range", data := .fields #[.int lo t, .int hi u, .int 1 v] }
  | .frz o u => h.get? a = some o ∧ ObjOk H h a u
  | .tbl ps => h.get? a = some { cls := .none, data := .fields ps }
  | .met f x => h.get? a = some (PySem.W.methodObj (.ref f) (.ref x))
  | .ext φ => φ h ∧ (∃ o, h.get? a = some o) ∧ ∀ h1 h2 : Heap, φ h1 → (∀ o, h1.get? a = some o → h2.get? a = some o) → φ h2
noncomputable def HOk (H : Hp) (h : Heap) : Prop := ∀ a o, H a = some o → ObjOk P w H h a o
end
section
variable {P : Program} {w : World} {H H' : Hp} {h h' : Heap} {a : Addr} {o : HO}
theorem ObjOk.lt (x : ObjOk P w H h a o) : a < h.objs.size := by
  cases o with
  | lst xs => obtain ⟨_, _, _, _, e⟩ := x; exact Heap.lt_size e
  | tup xs => obtain ⟨_, _, _, p⟩ := x; exact p.lt
  | dK kvs => obtain ⟨_, _, _, _, o, _, _, e, _⟩ := x; exact Heap.lt_size e
  | dT kvs => obtain ⟨_, _, _, _, o, _, _, e, _⟩ := x; exact Heap.lt_size e
  | set S n => obtain ⟨o, _, _, _, e, _⟩ := x; exact Heap.lt_size e
  | ins C dx fs => obtain ⟨_, _, _, e, _⟩ := x; exact Heap.lt_size e
  | own y => obtain ⟨_, e⟩ := x; exact Heap.lt_size e
  | xd fs => obtain ⟨_, ⟨_, _, _, e, _⟩, _⟩ := x; exact Heap.lt_size e
  | rng lo hi => obtain ⟨_, _, _, e⟩ := x; exact Heap.lt_size e
  | frz ob u => obtain ⟨e, _⟩ := x; exact Heap.lt_size e
  | tbl ps => exact Heap.lt_size (show h.get? a = some _ from x)
  | met f y => exact Heap.lt_size (show h.get? a = some _ from x)
  | ext φ => obtain ⟨_, ⟨_, e⟩, _⟩ := x; exact Heap.lt_size e
theorem Paired.mapP {α β : Type} {F G : α → β → Prop} : ∀ {l₁ : List α} {l₂ : List β}, Paired F l₁ l₂ → (∀ a b, F a b → G a b) → Paired G l₁ l₂
  | _, _, .nil, _ => .nil
  | _, _, .cons r t, f => .cons (f _ _ r) (Paired.mapP t f)
theorem ObjOk.stay (x : ObjOk P w H h a o) (k : ∀ b u, (b = a ∨ H b = some (.own a)) → h.get? b = some u → h'.get? b = some u)
    (ho : ∀ b, H b = some (.own a) → H' b = some (.own a)) (ht : ∀ b xs, H b = some (.tup xs) → H' b = some (.tup xs)) : ObjOk P w H' h' a o := by
  induction o with
  | lst xs => obtain ⟨z, its, n, r, e⟩ := x; exact ⟨z, its, n, r, k _ _ (.inl rfl) e⟩
  | tup xs => obtain ⟨z, its, r, ob, e, c⟩ := x; exact ⟨z, its, r, ob, k _ _ (.inl rfl) e, c⟩
  | dK kvs => obtain ⟨z, y, vs, r, ob, es, ep, e, c⟩ := x; exact ⟨z, y, vs, r, ob, es, ep, k _ _ (.inl rfl) e, c⟩
  | dT kvs =>
    obtain ⟨z, y, xs, r, ob, es, ep, e, c⟩ := x
    exact ⟨z, y, xs, Paired.mapP r fun p q z => ⟨z.1, ht _ _ z.2.1, z.2.2⟩, ob, es, ep, k _ _ (.inl rfl) e, c⟩
  | set S n => obtain ⟨ob, es, ep, t, e, c⟩ := x; exact ⟨ob, es, ep, t, k _ _ (.inl rfl) e, c⟩
  | ins C dx fs =>
    obtain ⟨d, z, ne, e, mA, ⟨od, es, ep, e2, c⟩, r⟩ := x
    exact ⟨ho _ d, z, ne, k _ _ (.inl rfl) e, mA, ⟨od, es, ep, k _ _ (.inr d) e2, c⟩, r⟩
  | own y => obtain ⟨ob, e⟩ := x; exact ⟨ob, k _ _ (.inl rfl) e⟩
  | xd fs => obtain ⟨mA, ⟨od, es, ep, e, c⟩, r⟩ := x; exact ⟨mA, ⟨od, es, ep, k _ _ (.inl rfl) e, c⟩, r⟩
  | rng lo hi => obtain ⟨t, u, v, e⟩ := x; exact ⟨t, u, v, k _ _ (.inl rfl) e⟩
  | frz ob u ih => obtain ⟨e, q⟩ := x; exact ⟨k _ _ (.inl rfl) e, ih q⟩
  | tbl ps =>
    have e : h.get? a = some { cls := .none, data := .fields ps } := x
    show h'.get? a = some { cls := .none, data := .fields ps }
    exact k a _ (.inl rfl) e
  | met f y =>
    have e : h.get? a = some (PySem.W.methodObj (.ref f) (.ref y)) := x
    show h'.get? a = some (PySem.W.methodObj (.ref f) (.ref y))
    exact k a _ (.inl rfl) e
  | ext φ => obtain ⟨p, ⟨o, e⟩, st⟩ := x; exact ⟨st _ _ p fun o q => k _ _ (.inl rfl) q, ⟨o, k _ _ (.inl rfl) e⟩, st⟩
theorem HOk.lt (x : HOk P w H h) (e : H a = some o) : a < h.objs.size := (x a o e).lt
theorem HOk.fresh (x : HOk P w H h) (e : h.objs.size ≤ a) : H a = none := by
  cases q : H a with
  | none => rfl
  | some u => exact absurd (Nat.lt_of_lt_of_le (x.lt q) e) (Nat.lt_irrefl _)
theorem HOk.kept (x : HOk P w H h) (k : ∀ b u, h.get? b = some u → h'.get? b = some u) : HOk P w H h' := fun a o e =>
  (x a o e).stay (fun b u _ q => k b u q) (fun _ q => q) fun _ _ q => q
theorem HOk.laid (x : HOk P w H h) (k : ∀ b u, h.get? b = some u → h'.get? b = some u) (hp : h.objs.size ≤ a) (new : ObjOk P w (upd H a o) h' a o) : HOk P w (upd H a o) h' := fun b u e => by
  have hn := x.fresh hp
  by_cases hb : b = a
  · subst hb; rw [zbx] at e; cases e; exact new
  · rw [za4 hb] at e
    exact (x b u e).stay (fun c v _ q => k c v q) (fun c q => by rw [za4 (zbG q hn)]; exact q) fun c xs q => by rw [za4 (zbG q hn)]; exact q
end
noncomputable def Rd (H : Hp) (a : Addr) (u : HO) : Prop := H a = some u ∨ ∃ o, H a = some (.frz o u)
theorem Rd.of {H : Hp} {a : Addr} {u : HO} (h : H a = some u) : Rd H a u := .inl h
theorem Rd.ok {P : Program} {w : World} {H : Hp} {h : Heap} {a : Addr} {u : HO} (r : Rd H a u) (x : HOk P w H h) : ObjOk P w H h a u := by
  rcases r with r | ⟨o, r⟩
  · exact x a u r
  · obtain ⟨_, q⟩ := x a _ r
    exact q
noncomputable def Mut : Option HO → Prop
  | some (.lst _) => True
  | some (.dK _) => True
  | some (.dT _) => True
  | some (.set _ _) => True
  | some (.ins _ _ _) => True
  | some (.ext _) => True
  | _ => False
section
variable {P : Program} {w : World} {H : Hp} {h h' : Heap} {x e : Addr} {o' : HO}
theorem HOk.write (ok : HOk P w H h) (mu : Mut (H x)) (he : e = x ∨ H e = some (.own x)) (k : ∀ b u, b ≠ e → h.get? b = some u → h'.get? b = some u) (heo : ∃ u, h'.get? e = some u)
    (new : ObjOk P w (upd H x o') h' x o') : HOk P w (upd H x o') h' := fun b u q => by
  have nown : ∀ c y, H c = some (.own y) → c ≠ x := fun c y r z => by subst z; rw [r] at mu; exact mu
  have ntup : ∀ c xs, H c = some (.tup xs) → c ≠ x := fun c xs r z => by subst z; rw [r] at mu; exact mu
  by_cases hb : b = x
  · subst hb; rw [zbx] at q; cases q; exact new
  · rw [za4 hb] at q
    by_cases hbe : b = e
    · have q' : H b = some (.own x) := by
        rcases he with z | z
        · exact absurd (hbe.trans z) hb
        · rw [hbe]; exact z
      rw [q] at q'; cases q'
      obtain ⟨v, hv⟩ := heo
      exact ⟨v, by rw [hbe]; exact hv⟩
    · refine (ok b u q).stay (fun c v hc r => k c v ?_ r) (fun c r => by rw [za4 (nown c b r)]; exact r) fun c xs r => by rw [za4 (ntup c xs r)]; exact r
      rcases hc with rfl | hc
      · exact hbe
      · rintro rfl
        rcases he with z | z
        · exact nown c b hc z
        · rw [hc] at z; cases z; exact hb rfl
end
structure Un (fs ex : List Addr) (H H' : Hp) (h h' : Heap) : Prop where
  keep : ∀ b o, h.get? b = some o → H b = none → b ∉ fs → b ∉ ex → h'.get? b = some o
  slot : ∀ b o, h.get? b = some o → H b = none → b ∈ fs → b ∉ ex → ∃ sl, h'.get? b = some { o with slots := sl }
  free : ∀ b o, h.get? b = some o → H b = none → b ∉ ex → H' b = none
  there : ∀ b o, h.get? b = some o → b ∉ ex → ∃ o', h'.get? b = some o'
  tups : ∀ b xs, H b = some (.tup xs) → H' b = some (.tup xs)
  frzs : ∀ b o u, H b = some (.frz o u) → H' b = some (.frz o u)
  tbls : ∀ b ps, H b = some (.tbl ps) → ∃ more, H' b = some (.tbl (ps ++ more))
section
variable {fs fs' ex ex' : List Addr} {H H1 H2 : Hp} {h h1 h2 h' : Heap} {a x e : Addr} {o : HO}
theorem Un.any (u : Un fs ex H H1 h h1) {b : Addr} {ob : Obj} (q : h.get? b = some ob) (n : H b = none) (hx : b ∉ ex) : ∃ sl, h1.get? b = some { ob with slots := sl } := by
  by_cases hb : b ∈ fs
  · exact u.slot b ob q n hb hx
  · exact ⟨ob.slots, u.keep b ob q n hb hx⟩
theorem Un.trans (a : Un fs ex H H1 h h1) (b : Un fs ex H1 H2 h1 h2) : Un fs ex H H2 h h2 where
  keep := fun c ob q n hc hx => b.keep c ob (a.keep c ob q n hc hx) (a.free c ob q n hx) hc hx
  slot := fun c ob q n hc hx => by
    obtain ⟨sl, e1⟩ := a.slot c ob q n hc hx
    obtain ⟨sl', e2⟩ := b.slot c _ e1 (a.free c ob q n hx) hc hx
    exact ⟨sl', e2⟩
  free := fun c ob q n hx => by
    obtain ⟨o', e1⟩ := a.there c ob q hx
    exact b.free c o' e1 (a.free c ob q n hx) hx
  there := fun c ob q hx => by
    obtain ⟨o', e1⟩ := a.there c ob q hx
    exact b.there c o' e1 hx
  tups := fun c xs q => b.tups c xs (a.tups c xs q)
  frzs := fun c ob xs q => b.frzs c ob xs (a.frzs c ob xs q)
  tbls := fun c ps q => by
    obtain ⟨m1, e1⟩ := a.tbls c ps q
    obtain ⟨m2, e2⟩ := b.tbls c _ e1
    exact ⟨m1 ++ m2, by rw [e2, Array.append_assoc]⟩
theorem Un.kept (k : ∀ b u, h.get? b = some u → h'.get? b = some u) : Un fs ex H H h h' :=
  ⟨fun b ob q _ _ _ => k b ob q, fun b ob q _ _ _ => ⟨ob.slots, k b ob q⟩, fun _ _ _ n _ => n, fun b ob q _ => ⟨ob, k b ob q⟩, fun _ _ q => q, fun _ _ _ q => q, fun _ ps q => ⟨#[], by rw [q]; simp⟩⟩
theorem Un.refl : Un fs ex H H h h := Un.kept fun _ _ q => q
theorem Un.laid (k : ∀ b u, h.get? b = some u → h'.get? b = some u) (hp : h.objs.size ≤ a) (hn : H a = none) : Un fs ex H (upd H a o) h h' where
  keep := fun b u q _ _ _ => k b u q
  slot := fun b u q _ _ _ => ⟨u.slots, k b u q⟩
  free := fun b u q n _ => by rw [za4 (Nat.ne_of_lt (Nat.lt_of_lt_of_le (Heap.lt_size q) hp))]; exact n
  there := fun b u q _ => ⟨u, k b u q⟩
  tups := fun b xs q => by rw [za4 (zbG q hn)]; exact q
  frzs := fun b u xs q => by rw [za4 (zbG q hn)]; exact q
  tbls := fun b ps q => ⟨#[], by rw [za4 (zbG q hn), q]; simp⟩
theorem Un.write (mu : Mut (H x)) (he : e = x ∨ H e = some (.own x)) (k : ∀ b u, b ≠ e → h.get? b = some u → h'.get? b = some u) (heo : ∃ u, h'.get? e = some u) : Un fs ex H (upd H x o) h h' := by
  have hx : ∀ b, H b = none → b ≠ x := fun b n z => by subst z; rw [n] at mu; exact mu
  have hb : ∀ b, H b = none → b ≠ e := fun b n z => by
    subst z
    rcases he with r | r
    · exact hx b n r
    · rw [n] at r; cases r
  have hm : ∀ b u, H b = some u → ¬ Mut (some u) → b ≠ x := fun b u q nm z => by subst z; rw [q] at mu; exact nm mu
  refine ⟨fun b u q n _ _ => k b u (hb b n) q, fun b u q n _ _ => ⟨u.slots, k b u (hb b n) q⟩, fun b u q n _ => by rw [za4 (hx b n)]; exact n, fun b u q _ => ?_,
    fun b xs q => by rw [za4 (hm b _ q fun z => z)]; exact q, fun b u xs q => by rw [za4 (hm b _ q fun z => z)]; exact q, fun b ps q => ⟨#[], by rw [za4 (hm b _ q fun z => z), q]; simp⟩⟩
  by_cases hbe : b = e
  · subst hbe; exact heo
  · exact ⟨u, k b u hbe q⟩
theorem Un.mono (u : Un fs ex H H1 h h1) (hs : ∀ b ∈ fs, b ∈ fs') (hx : ∀ b ∈ ex, b ∈ ex') : Un fs' ex' H H1 h h1 :=
  ⟨fun b ob q n hb he => u.keep b ob q n (fun z => hb (hs b z)) fun z => he (hx b z), fun _ _ q n _ he => u.any q n fun z => he (hx _ z), fun b ob q n he => u.free b ob q n fun z => he (hx b z), fun b ob q he => u.there b ob q fun z => he (hx b z), u.tups, u.frzs, u.tbls⟩
end
noncomputable def trk (h : Heap) (H : Hp) : List Addr := (List.range h.objs.size).filter fun a => (H a).isSome
noncomputable def zkT (h : Heap) (H : Hp) : Heap := PySem.W.hideAll h (trk h H)
theorem zjn (h : Heap) (H : Hp) : (zkT h H).objs.size = h.objs.size := PySem.W.hideAll_size _ _
theorem zkU {h : Heap} {H : Hp} {b : Addr} {o : Obj} (e : h.get? b = some o) (n : H b = none) : (zkT h H).get? b = some o :=
  PySem.W.hideAll_get _ e fun hm => by
    have q : (H b).isSome = true := (List.mem_filter.mp hm).2
    rw [n] at q; simp at q
theorem zmW {h : Heap} {H : Hp} {b : Addr} {o : Obj} (e : (zkT h H).get? b = some o) : h.get? b = some o ∧ H b = none := by
  have e' : h.get? b = some o := PySem.W.of_hideAll (trk h H) e
  refine ⟨e', ?_⟩
  cases q : H b with
  | none => rfl
  | some x =>
    have hm : b ∈ trk h H := List.mem_filter.mpr ⟨List.mem_range.mpr (Heap.lt_size e'), by simp [q]⟩
    have z : (zkT h H).get? b = none := PySem.W.hideAll_none (trk h H) hm
    rw [z] at e; cases e
noncomputable def zmX (g h : Heap) (L : Addr) : List (Addr × Obj) := (List.range h.objs.size).filterMap fun a => if a = L ∨ (g.get? a).isSome = true then none else (h.get? a).map fun o => (a, o)
noncomputable def zdD (g h : Heap) (L d : Addr) : List (Addr × Obj) := (zmX g h L).filter fun p => decide (p.1 ≠ d)
end L2
namespace L2
open PySem PySem.Spec PyProof.Rows
structure Mod (K : PySem.W.Frag) (mg : Str → Option Value) (base : Heap) : Prop where
  kin : K.In base
  glob : base.Ns mainGlobals mg
  blt : ∃ mb, base.Ns builtinsNs mb ∧ ∀ x : Str, x ≠ "__name__" → mb x = bootBuiltins x
  nolimit : base.NoLimit
structure Cx where
  prog : Program
  w : World
  K : PySem.W.Frag
  mg : Str → Option Value
  base : Heap
  A : Around
  N : List Str
  s₀ : Shared
  H₀ : Hp
  env : Env
  outer : List Env
  stack : List Env
  ex : List Addr
  fn : Str → Bool
  calm : Bool
  pn : List (Addr × Obj)
  xe : Value → Shared → Prop
noncomputable def frs (l : List Env) : List Addr := l.filterMap (·.frame)
noncomputable abbrev Cx.fs (X : Cx) : List Addr := frs X.outer
noncomputable def Vis (sc : Scope) (x : Str) : Prop := sc.names.lookup x = some .local ∨ sc.names.lookup x = some .cell ∨ sc.names.lookup x = some .free
noncomputable def Loc (sc : Scope) (x : Str) : Prop := sc.names.lookup x = some .local ∨ sc.names.lookup x = some .cell
noncomputable def zuC (env : Env) (h : Heap) (m : Str → Option Value) (x : Str) (u : Value) : Prop :=
  (env.kindOf x = some .local ∧ m x = some u) ∨ ((env.kindOf x = some .cell ∨ env.kindOf x = some .free) ∧ ∃ c, env.cells.lookup x = some c ∧ h.IsCell c (some u))
structure Cx.Ok (X : Cx) : Prop where
  mod : Mod X.K X.mg X.base
  kind : X.env.scope.kind = .function
  glob : X.env.globals = mainGlobals
  blt : X.env.builtins = builtinsNs
  above : X.s₀.heap.objs.size ≤ X.env.locals
  inj : ∀ x y c, X.env.cells.lookup x = some c → X.env.cells.lookup y = some c → x = y
  has : ∀ x, (X.env.kindOf x = some .cell ∨ X.env.kindOf x = some .free) → ∃ c, X.env.cells.lookup x = some c
  cab : ∀ x c, X.fn x = true → X.env.cells.lookup x = some c → X.s₀.heap.objs.size ≤ c
  hd : X.calm = true → X.A.handled = none
  frames : X.A.frames = some X.stack
  stk : X.stack = X.outer ∨ (X.stack = X.env :: X.outer ∧ X.env.frame = some X.env.locals)
  exf : ∀ b ∈ X.ex, b ≠ X.env.locals ∧ ∀ x c, X.env.cells.lookup x = some c → c ≠ b
  bs : ∀ b o, X.base.get? b = some o → X.s₀.heap.get? b = some o ∧ X.H₀ b = none
  bsz : X.base.objs.size ≤ X.s₀.heap.objs.size
  noex : ∀ b o, X.base.get? b = some o → b ∉ X.ex
  exfs : ∀ b ∈ X.ex, b ∉ X.fs
  funs : X.s₀.heap.FunFrames X.base X.outer
  frf : ∀ b ∈ X.fs, X.H₀ b = none
structure Inv (X : Cx) (pins : List (Addr × Obj)) (σ : List (Option V)) (H : Hp) (s : Shared) : Prop where
  ok : X.Ok
  os : s.os = X.s₀.os
  bare : AllBare s.gens
  base : Un X.fs X.ex X.H₀ H X.s₀.heap s.heap
  loc : ∃ m, s.heap.Ns X.env.locals m ∧ ∀ (i : Nat) (x : Str) (v : V), X.N[i]? = some x → σ[i]? = some (some v) → Vis X.env.scope x → ∃ u, RelV v u ∧ zuC X.env s.heap m x u
  cell : ∀ x c, X.env.cells.lookup x = some c → ∃ v, s.heap.IsCell c v
  free : H X.env.locals = none
  freeC : ∀ x c, X.env.cells.lookup x = some c → H c = none
  pin : ∀ p ∈ X.pn ++ pins, s.heap.get? p.1 = some p.2 ∧ H p.1 = none ∧ p.1 ≠ X.env.locals ∧ p.1 ∉ X.fs ∧ ∀ v, p.2.data ≠ .cell v
  hok : HOk X.prog X.w H s.heap
  len : σ.length = X.N.length
section
variable {X : Cx} {pins : List (Addr × Obj)} {σ : List (Option V)} {H H' : Hp} {s : Shared} {h' : Heap}
theorem Cx.Ok.nofr (ok : X.Ok) {b : Addr} {o : Obj} (e : X.base.get? b = some o) : b ∉ X.fs := fun hb => by
  have := (ok.funs.mem hb).1
  rw [e] at this; cases this
theorem Inv.bs (I : Inv X pins σ H s) : ∀ b o, X.base.get? b = some o → s.heap.get? b = some o ∧ H b = none := fun b o e =>
  ⟨I.base.keep b o (I.ok.bs b o e).1 (I.ok.bs b o e).2 (I.ok.nofr e) (I.ok.noex b o e), I.base.free b o (I.ok.bs b o e).1 (I.ok.bs b o e).2 (I.ok.noex b o e)⟩
theorem Inv.bk (I : Inv X pins σ H s) : ∀ b o, X.base.get? b = some o → s.heap.get? b = some o := fun b o e => (I.bs b o e).1
theorem Inv.mod (I : Inv X pins σ H s) : Mod X.K X.mg X.base := I.ok.mod
theorem Inv.kIn (I : Inv X pins σ H s) : X.K.In s.heap := I.ok.mod.kin.keeps I.bk
theorem Inv.nolimit (I : Inv X pins σ H s) : s.heap.NoLimit := I.ok.mod.nolimit.keeps I.bk
theorem Inv.fr (I : Inv X pins σ H s) : ∃ m, Fr X.base X.env.locals s.heap m :=
  let ⟨m, hn, _⟩ := I.loc
  ⟨m, hn, I.bk, Nat.le_trans I.ok.bsz I.ok.above⟩
theorem Inv.lt (I : Inv X pins σ H s) : X.env.locals < s.heap.objs.size := let ⟨_, hn, _⟩ := I.loc; hn.lt
theorem Inv.sz (I : Inv X pins σ H s) : X.s₀.heap.objs.size ≤ s.heap.objs.size := Nat.le_trans I.ok.above (Nat.le_of_lt I.lt)
theorem Inv.nofs (I : Inv X pins σ H s) {a : Addr} (h : s.heap.objs.size ≤ a) : a ∉ X.fs := fun hb => by
  obtain ⟨_, o, ho, _⟩ := I.ok.funs.mem hb
  exact absurd (Nat.lt_of_lt_of_le (Heap.lt_size ho) (Nat.le_trans I.sz h)) (Nat.lt_irrefl _)
theorem Inv.cne (I : Inv X pins σ H s) : ∀ x c, X.env.cells.lookup x = some c → c ≠ X.env.locals := fun x c e z => by
  obtain ⟨v, o, ho, hd⟩ := I.cell x c e
  obtain ⟨m, ⟨o', es, ep, ho', hd', _⟩, _⟩ := I.loc
  rw [z, ho'] at ho; cases ho; rw [hd'] at hd; cases hd
theorem Inv.funs (I : Inv X pins σ H s) : s.heap.FunFrames X.base X.outer := by
  have all : ∀ (l : List Env), (∀ b ∈ frs l, b ∈ X.fs) → X.s₀.heap.FunFrames X.base l → s.heap.FunFrames X.base l := by
    intro l
    induction l with
    | nil => intro _ _; trivial
    | cons env r ih =>
      intro hs hl
      obtain ⟨hk, ⟨L, o, hf, hn, ho, hd⟩, hr⟩ := hl
      have hL : L ∈ X.fs := hs L (by unfold frs; rw [List.filterMap_cons, hf]; exact List.mem_cons_self)
      obtain ⟨sl, e⟩ := I.base.slot L o ho (I.ok.frf L hL) hL fun z => I.ok.exfs L z hL
      exact ⟨hk, ⟨L, _, hf, hn, e, hd⟩, ih (fun b hb => hs b (by unfold frs; rw [List.filterMap_cons, hf]; exact List.mem_cons_of_mem _ hb)) hr⟩
  exact all X.outer (fun _ hb => hb) I.ok.funs
theorem Inv.stack (I : Inv X pins σ H s) : s.heap.FunFrames X.base X.stack := by
  rcases I.ok.stk with e | ⟨e, hf⟩
  · rw [e]; exact I.funs
  · rw [e]
    obtain ⟨m, hn, _⟩ := I.loc
    refine .cons (by rw [I.ok.kind]; decide) hf hn ?_ I.funs
    exact Heap.get?_none_of_le (Nat.le_trans I.ok.bsz I.ok.above)
theorem Inv.stkSub (I : Inv X pins σ H s) : ∀ b ∈ frs X.stack, b ∈ X.env.locals :: X.fs := fun b hb => by
  rcases I.ok.stk with e | ⟨e, hf⟩
  · rw [e] at hb; exact List.mem_cons_of_mem _ hb
  · rw [e] at hb
    unfold frs at hb
    rw [List.filterMap_cons, hf] at hb
    exact hb
theorem Inv.stkFree (I : Inv X pins σ H s) : ∀ b ∈ frs X.stack, H b = none := fun b hb => by
  rcases List.mem_cons.mp (I.stkSub b hb) with e | hb
  · rw [e]; exact I.free
  · obtain ⟨_, o, ho, _⟩ := I.ok.funs.mem hb
    exact I.base.free b o ho (I.ok.frf b hb) fun z => I.ok.exfs b z hb
theorem Inv.step {g' : Array GenState} {t' : Nat} {d' : Drawn} {ch : List Addr} (I : Inv X pins σ H s)
    (hch : ∀ b ∈ ch, (b ∈ X.ex ∨ X.s₀.heap.objs.size ≤ b) ∧ b ≠ X.env.locals ∧ (∀ x c, X.env.cells.lookup x = some c → c ≠ b) ∧ ∀ p ∈ X.pn ++ pins, p.1 ≠ b)
    (keep : ∀ b o, b ≠ X.env.locals → b ∉ X.fs → b ∉ ch → s.heap.get? b = some o → H b = none → h'.get? b = some o)
    (slot : ∀ b o, b ≠ X.env.locals → b ∈ X.fs → b ∉ ch → s.heap.get? b = some o → H b = none → ∃ sl, h'.get? b = some { o with slots := sl }) (free : ∀ b o, b ∉ ch → s.heap.get? b = some o → H b = none → H' b = none)
    (there : ∀ b o, b ∉ ch → s.heap.get? b = some o → ∃ o', h'.get? b = some o')
    (tups : ∀ b xs, H b = some (.tup xs) → H' b = some (.tup xs)) (frzs : ∀ b o u, H b = some (.frz o u) → H' b = some (.frz o u)) (tbls : ∀ b ps, H b = some (.tbl ps) → ∃ more, H' b = some (.tbl (ps ++ more)))
    (ns : ∀ m, s.heap.Ns X.env.locals m → h'.Ns X.env.locals m) (hok : HOk X.prog X.w H' h') (hg : AllBare g') :
    Inv X pins σ H' { s with heap := h', gens := g', drawn := d', toks := t' } := by
  have neL : ∀ b o, X.s₀.heap.get? b = some o → b ≠ X.env.locals := fun b o e => Nat.ne_of_lt (Nat.lt_of_lt_of_le (Heap.lt_size e) I.ok.above)
  have neC : ∀ b o, X.s₀.heap.get? b = some o → b ∉ X.ex → b ∉ ch := fun b o e hx hb => by
    rcases (hch b hb).1 with z | z
    · exact hx z
    · exact absurd (Nat.lt_of_lt_of_le (Heap.lt_size e) z) (Nat.lt_irrefl _)
  have cellK : ∀ x c, X.env.cells.lookup x = some c → ∀ v, s.heap.IsCell c v → h'.IsCell c v := fun x c e v ⟨o, ho, hd⟩ => by
    have nch : c ∉ ch := fun z => (hch c z).2.2.1 x c e rfl
    by_cases hc : c ∈ X.fs
    · obtain ⟨sl, q⟩ := slot c o (I.cne x c e) hc nch ho (I.freeC x c e)
      exact ⟨_, q, hd⟩
    · exact ⟨o, keep c o (I.cne x c e) hc nch ho (I.freeC x c e), hd⟩
  refine ⟨I.ok, I.os, hg, ⟨fun b o e n hb hx => ?_, fun b o e n hb hx => ?_, fun b o e n hx => ?_, fun b o e hx => ?_, fun b xs e => tups b xs (I.base.tups b xs e), fun b o xs e => frzs b o xs (I.base.frzs b o xs e), fun b ps e => ?_⟩, ?_, fun x c e => ?_, ?_, fun x c e => ?_, fun p hp => ?_, hok, I.len⟩
  · exact keep b o (neL b o e) hb (neC b o e hx) (I.base.keep b o e n hb hx) (I.base.free b o e n hx)
  · obtain ⟨sl, e1⟩ := I.base.slot b o e n hb hx
    obtain ⟨sl', e2⟩ := slot b _ (neL b o e) hb (neC b o e hx) e1 (I.base.free b o e n hx)
    exact ⟨sl', e2⟩
  · obtain ⟨o', e1⟩ := I.base.there b o e hx
    exact free b o' (neC b o e hx) e1 (I.base.free b o e n hx)
  · obtain ⟨o', e1⟩ := I.base.there b o e hx
    exact there b o' (neC b o e hx) e1
  · obtain ⟨m1, e1⟩ := I.base.tbls b ps e
    obtain ⟨m2, e2⟩ := tbls b _ e1
    exact ⟨m1 ++ m2, by rw [e2, Array.append_assoc]⟩
  · obtain ⟨m, hn, hl⟩ := I.loc
    refine ⟨m, ns m hn, fun i x v e1 e2 e3 => ?_⟩
    obtain ⟨u, r, l⟩ := hl i x v e1 e2 e3
    refine ⟨u, r, ?_⟩
    rcases l with l | ⟨k, c, e, z⟩
    · exact .inl l
    · exact .inr ⟨k, c, e, cellK x c e _ z⟩
  · obtain ⟨v, z⟩ := I.cell x c e
    exact ⟨v, cellK x c e v z⟩
  · obtain ⟨m, ⟨o, _, _, ho, _⟩, _⟩ := I.loc
    exact free _ o (fun z => (hch _ z).2.1 rfl) ho I.free
  · obtain ⟨v, o, ho, hd⟩ := I.cell x c e
    exact free c o (fun z => (hch c z).2.2.1 x c e rfl) ho (I.freeC x c e)
  · obtain ⟨e, n, ne, nf, d⟩ := I.pin p hp
    have nch : p.1 ∉ ch := fun z => (hch p.1 z).2.2.2 p hp rfl
    exact ⟨keep p.1 p.2 ne nf nch e n, free p.1 p.2 nch e n, ne, nf, d⟩
theorem Inv.un {t' : Nat} (I : Inv X pins σ H s) (u : Un X.fs [] H H' s.heap h') (hok : HOk X.prog X.w H' h') : Inv X pins σ H' { s with heap := h', toks := t' } := by
  obtain ⟨m, ⟨o, es, ep, ho, r⟩, _⟩ := id I.loc
  obtain ⟨sl, hL⟩ := u.any ho I.free (by simp)
  exact I.step (g' := s.gens) (d' := s.drawn) (ch := []) (fun _ z => nomatch z) (fun b o _ hb _ e n => u.keep b o e n hb (by simp)) (fun b o _ hb _ e n => u.slot b o e n hb (by simp)) (fun b o _ e n => u.free b o e n (by simp)) (fun b o _ e => u.there b o e (by simp)) u.tups u.frzs u.tbls (fun m' hm => by
    obtain ⟨o', es', ep', ho', r'⟩ := hm
    rw [ho] at ho'; cases ho'
    exact ⟨_, es', ep', hL, r'⟩) hok I.bare
theorem Inv.call {g' : Array GenState} {t' : Nat} {d' : Drawn} {ch : List Addr} (I : Inv X pins σ H s) (u : Un (frs X.stack) ch H H' s.heap h') (hok : HOk X.prog X.w H' h') (hg : AllBare g')
    (hch : ∀ b ∈ ch, (b ∈ X.ex ∨ X.s₀.heap.objs.size ≤ b) ∧ b ≠ X.env.locals ∧ (∀ x c, X.env.cells.lookup x = some c → c ≠ b) ∧ ∀ p ∈ X.pn ++ pins, p.1 ≠ b) :
    Inv X pins σ H' { s with heap := h', gens := g', drawn := d', toks := t' } := by
  obtain ⟨m, ⟨o, es, ep, ho, r⟩, _⟩ := id I.loc
  obtain ⟨sl, hL⟩ := u.any ho I.free fun z => (hch _ z).2.1 rfl
  exact I.step (ch := ch) hch (fun b o hL hb hc e n => u.keep b o e n (fun z => (List.mem_cons.mp (I.stkSub b z)).elim hL hb) hc) (fun b o _ _ hc e n => u.any e n hc) (fun b o hc e n => u.free b o e n hc) (fun b o hc e => u.there b o e hc) u.tups u.frzs u.tbls (fun m' hm => by
    obtain ⟨o', es', ep', ho', r'⟩ := hm
    rw [ho] at ho'; cases ho'
    exact ⟨_, es', ep', hL, r'⟩) hok hg
theorem Inv.turned {t' : Nat} {it : Addr} (I : Inv X pins σ H s) (k : ∀ b o, b ≠ it → s.heap.get? b = some o → h'.get? b = some o) (hn : H it = none) (hL : it ≠ X.env.locals)
    (h1 : it ∈ X.ex ∨ X.s₀.heap.objs.size ≤ it) (h2 : ∀ x c, X.env.cells.lookup x = some c → c ≠ it) (h3 : ∀ p ∈ X.pn ++ pins, p.1 ≠ it) : Inv X pins σ H { s with heap := h', toks := t' } := by
  have nit : ∀ b u, H b = some u → b ≠ it := fun b u e z => by rw [z, hn] at e; cases e
  refine I.step (g' := s.gens) (d' := s.drawn) (ch := [it]) (fun b hb => ?_) (fun b o _ _ hc e _ => k b o (fun z => hc (by simp [z])) e) (fun b o _ _ hc e _ => ⟨o.slots, k b o (fun z => hc (by simp [z])) e⟩) (fun _ _ _ _ n => n)
    (fun b o hc e => ⟨o, k b o (fun z => hc (by simp [z])) e⟩) (fun _ _ e => e) (fun _ _ _ e => e) (fun b ps e => ⟨#[], by rw [e]; simp⟩) (fun m hm => ?_) (fun b u e => ?_) I.bare
  · have e : b = it := by simpa using hb
    subst e
    exact ⟨h1, hL, h2, h3⟩
  · obtain ⟨o, es, ep, ho, r⟩ := hm
    exact ⟨o, es, ep, k _ o (Ne.symm hL) ho, r⟩
  · refine (I.hok b u e).stay (fun c v hc q => k c v ?_ q) (fun _ q => q) fun _ _ q => q
    rcases hc with z | z
    · rw [z]; exact nit b u e
    · exact nit c _ z
theorem Inv.tok (I : Inv X pins σ H s) (t : Nat) : Inv X pins σ H { s with toks := t } := I.un (h' := s.heap) (t' := t) Un.refl I.hok
theorem Inv.kept {t' : Nat} (I : Inv X pins σ H s) (k : ∀ b u, s.heap.get? b = some u → h'.get? b = some u) : Inv X pins σ H { s with heap := h', toks := t' } := I.un (Un.kept k) (I.hok.kept k)
theorem Inv.laid {a : Addr} {o : HO} {t' : Nat} (I : Inv X pins σ H s) (k : ∀ b u, s.heap.get? b = some u → h'.get? b = some u) (hp : s.heap.objs.size ≤ a) (new : ObjOk X.prog X.w (upd H a o) h' a o) :
    Inv X pins σ (upd H a o) { s with heap := h', toks := t' } := I.un (Un.laid k hp (I.hok.fresh hp)) (I.hok.laid k hp new)
theorem Inv.write {x e : Addr} {o : HO} {t' : Nat} (I : Inv X pins σ H s) (mu : Mut (H x)) (he : e = x ∨ H e = some (.own x)) (k : ∀ b u, b ≠ e → s.heap.get? b = some u → h'.get? b = some u) (heo : ∃ u, h'.get? e = some u)
    (new : ObjOk X.prog X.w (upd H x o) h' x o) : Inv X pins σ (upd H x o) { s with heap := h', toks := t' } := I.un (Un.write mu he k heo) (I.hok.write mu he k heo new)
theorem Inv.pins_of {pins' : List (Addr × Obj)} (I : Inv X pins σ H s) (h : ∀ p ∈ pins', s.heap.get? p.1 = some p.2 ∧ H p.1 = none ∧ p.1 ≠ X.env.locals ∧ p.1 ∉ X.fs ∧ ∀ v, p.2.data ≠ .cell v) : Inv X pins' σ H s :=
  ⟨I.ok, I.os, I.bare, I.base, I.loc, I.cell, I.free, I.freeC, fun p hp => (List.mem_append.mp hp).elim (fun z => I.pin p (List.mem_append_left _ z)) (h p), I.hok, I.len⟩
theorem ze7 {N : List Str} (hN : N.Nodup) {i j : Nat} {x : Str} (a : N[i]? = some x) (b : N[j]? = some x) : i = j := by
  obtain ⟨h1, e1⟩ := List.getElem?_eq_some_iff.mp a
  obtain ⟨h2, e2⟩ := List.getElem?_eq_some_iff.mp b
  exact (List.getElem_inj hN).mp (e1.trans e2.symm)
theorem zjo {M : Model} {A : Around} {E : Value → Shared → Prop} {i : Nat} {x : Str} {v : V} {u : Value} {Q : Unit → Shared → Prop} (I : Inv X pins σ H s) (hN : X.N.Nodup) (hi : X.N[i]? = some x) (hx : Loc X.env.scope x) (r : RelV v u)
    (h : ∀ s', Inv X pins (σ.set i (some v)) H s' → (∃ a, Heap.SameBut a s.heap s'.heap ∧ (a = X.env.locals ∨ X.env.cells.lookup x = some a)) → Q () s') (hf : X.fn x = true ∨ X.env.scope.names.lookup x = some .local := by first | exact .inl rfl | exact .inr rfl | assumption) : wpAny M A (storeName X.env x u) Q E s := by
  obtain ⟨m, hn, hl⟩ := id I.loc
  have hcls : (X.env.scope.kind == .class || (X.env.scope.kind == .module && X.env.locals != X.env.globals)) = false := by rw [I.ok.kind]; rfl
  have hiσ : i < σ.length := by rw [I.len]; exact (List.getElem?_eq_some_iff.mp hi).1
  have cne := I.cne
  have tracked : ∀ {a : Addr} {h' : Heap}, (∃ o, s.heap.get? a = some o ∧ H a = none) → Heap.SameBut a s.heap h' → HOk X.prog X.w H h' := fun {a h'} ha hs b ob e => by
    obtain ⟨_, _, hfree⟩ := ha
    refine (I.hok b ob e).stay (fun c w' hc q => (hs.2 c ?_).trans q) (fun _ q => q) fun _ _ q => q
    rintro rfl
    rcases hc with rfl | hc
    · rw [hfree] at e; cases e
    · rw [hfree] at hc; cases hc
  rcases hx with hk | hk
  · refine wpAny_storeName_local hk hn (fun h' hn' hs => ?_) hcls
    obtain ⟨oL, _, _, hoL, _⟩ := id hn
    refine h _ ⟨I.ok, I.os, I.bare, ⟨fun b o e n hb hx => ?_, fun b o e n hb hx => ?_, I.base.free, fun b o e hx => ?_, I.base.tups, I.base.frzs, I.base.tbls⟩, ⟨_, hn', fun j y v' e1 e2 e3 => ?_⟩, fun y c e => ?_, I.free, I.freeC, fun p hp => ?_, tracked ⟨oL, hoL, I.free⟩ hs, by simpa using I.len⟩ ⟨_, hs, .inl rfl⟩
    · exact (hs.2 b (Nat.ne_of_lt (Nat.lt_of_lt_of_le (Heap.lt_size e) I.ok.above))).trans (I.base.keep b o e n hb hx)
    · obtain ⟨sl, e1⟩ := I.base.slot b o e n hb hx
      exact ⟨sl, (hs.2 b (Nat.ne_of_lt (Nat.lt_of_lt_of_le (Heap.lt_size e) I.ok.above))).trans e1⟩
    · obtain ⟨o', e1⟩ := I.base.there b o e hx
      exact ⟨o', (hs.2 b (Nat.ne_of_lt (Nat.lt_of_lt_of_le (Heap.lt_size e) I.ok.above))).trans e1⟩
    · by_cases hj : j = i
      · subst hj
        rw [hi] at e1; cases e1
        rw [List.getElem?_set_self hiσ] at e2
        cases e2
        exact ⟨u, r, .inl ⟨hk, by simp⟩⟩
      · rw [List.getElem?_set_ne (Ne.symm hj)] at e2
        obtain ⟨u', r', q⟩ := hl j y v' e1 e2 e3
        refine ⟨u', r', ?_⟩
        rcases q with ⟨k, e⟩ | ⟨k, c, e, z⟩
        · refine .inl ⟨k, ?_⟩
          have : y ≠ x := fun e => hj (ze7 hN e1 (e ▸ hi))
          simp [this, e]
        · exact .inr ⟨k, c, e, z.sameBut hs (cne y c e)⟩
    · obtain ⟨w', z⟩ := I.cell y c e
      exact ⟨w', z.sameBut hs (cne y c e)⟩
    · obtain ⟨e, n, ne, nf, d⟩ := I.pin p hp
      exact ⟨(hs.2 p.1 ne).trans e, n, ne, nf, d⟩
  · have hfn : X.fn x = true := by
      rcases hf with z | z
      · exact z
      · rw [z] at hk; cases hk
    obtain ⟨c, hc⟩ := I.ok.has x (.inl hk)
    obtain ⟨w', z⟩ := I.cell x c hc
    refine wpAny_storeName_cell I.ok.kind hk hc z (fun h' hc' hs => ?_)
    obtain ⟨oc, hoc, hocd⟩ := id z
    refine h { s with heap := h' } ⟨I.ok, I.os, I.bare, ⟨fun b o e n hb hx => ?_, fun b o e n hb hx => ?_, I.base.free, fun b o e hx => ?_, I.base.tups, I.base.frzs, I.base.tbls⟩, ⟨m, hn.sameBut hs (Ne.symm (cne x c hc)), fun j y v' e1 e2 e3 => ?_⟩, fun y c' e => ?_, I.free, I.freeC, fun p hp => ?_, tracked ⟨oc, hoc, I.freeC x c hc⟩ hs, by simpa using I.len⟩ ⟨c, hs, .inr hc⟩
    · exact (hs.2 b (Nat.ne_of_lt (Nat.lt_of_lt_of_le (Heap.lt_size e) (I.ok.cab x c hfn hc)))).trans (I.base.keep b o e n hb hx)
    · obtain ⟨sl, e1⟩ := I.base.slot b o e n hb hx
      exact ⟨sl, (hs.2 b (Nat.ne_of_lt (Nat.lt_of_lt_of_le (Heap.lt_size e) (I.ok.cab x c hfn hc)))).trans e1⟩
    · obtain ⟨o', e1⟩ := I.base.there b o e hx
      exact ⟨o', (hs.2 b (Nat.ne_of_lt (Nat.lt_of_lt_of_le (Heap.lt_size e) (I.ok.cab x c hfn hc)))).trans e1⟩
    · by_cases hj : j = i
      · subst hj
        rw [hi] at e1; cases e1
        rw [List.getElem?_set_self hiσ] at e2
        cases e2
        exact ⟨u, r, .inr ⟨.inl hk, c, hc, hc'⟩⟩
      · rw [List.getElem?_set_ne (Ne.symm hj)] at e2
        obtain ⟨u', r', q⟩ := hl j y v' e1 e2 e3
        refine ⟨u', r', ?_⟩
        rcases q with q | ⟨k, c', e, z'⟩
        · exact .inl q
        · refine .inr ⟨k, c', e, z'.sameBut hs ?_⟩
          rintro rfl
          exact hj (ze7 hN e1 (I.ok.inj _ _ _ e hc ▸ hi))
    · by_cases hcc : c' = c
      · subst hcc; exact ⟨_, hc'⟩
      · obtain ⟨w2, z2⟩ := I.cell y c' e
        exact ⟨w2, z2.sameBut hs hcc⟩
    · obtain ⟨e, n, ne, nf, d⟩ := I.pin p hp
      refine ⟨(hs.2 p.1 ?_).trans e, n, ne, nf, d⟩
      intro q
      rw [q, hoc] at e
      have q' : oc = p.2 := Option.some.inj e
      exact d w' (by rw [← q']; exact hocd)
theorem ze8 {M : Model} {A : Around} {E : Value → Shared → Prop} {i : Nat} {x : Str} {v : V} {u : Value} {Q : Unit → Shared → Prop} (I : Inv X pins σ H s) (hN : X.N.Nodup) (hi : X.N[i]? = some x) (hx : Loc X.env.scope x) (r : RelV v u)
    (h : ∀ s', Inv X pins (σ.set i (some v)) H s' → Q () s') (hf : X.fn x = true ∨ X.env.scope.names.lookup x = some .local := by first | exact .inl rfl | exact .inr rfl | assumption) : wpAny M A (storeName X.env x u) Q E s :=
  zjo I hN hi hx r (fun s' I' _ => h s' I') hf
theorem Inv.call' {s' : Shared} {ch : List Addr} (I : Inv X pins σ H s) (ho : s'.os = s.os) (u : Un (frs X.stack) ch H H' s.heap s'.heap) (hok : HOk X.prog X.w H' s'.heap) (hg : AllBare s'.gens)
    (hch : ∀ b ∈ ch, (b ∈ X.ex ∨ X.s₀.heap.objs.size ≤ b) ∧ b ≠ X.env.locals ∧ (∀ x c, X.env.cells.lookup x = some c → c ≠ b) ∧ ∀ p ∈ X.pn ++ pins, p.1 ≠ b) : Inv X pins σ H' s' := by
  obtain ⟨h', g', d', t', o'⟩ := s'
  have e : o' = s.os := ho
  subst e
  exact I.call (g' := g') (t' := t') (d' := d') u hok hg hch
end
noncomputable abbrev XK := Value → Option Addr → Hp → Prop
noncomputable abbrev St := List (Option V)
noncomputable abbrev VK := V → Hp → Prop
noncomputable abbrev TE := St → Hp → VK → Prop
noncomputable abbrev TT := St → Hp → (Bool → Hp → Prop) → Prop
noncomputable abbrev TA := St → Hp → (List V → Hp → Prop) → Prop
structure Ends where
  nx : St → Hp → Prop
  rt : VK
  bk : St → Hp → Prop := fun _ _ => False
  ct : St → Hp → Prop := fun _ _ => False
noncomputable abbrev TS := Ends → St → Hp → Prop
noncomputable def EP (X : Cx) (pins : List (Addr × Obj)) (σ : St) (Q : VK) (u : Value) (s' : Shared) : Prop := ∃ v H', Inv X pins σ H' s' ∧ RelV v u ∧ Q v H'
noncomputable def TP (X : Cx) (pins : List (Addr × Obj)) (σ : St) (Q : Bool → Hp → Prop) (b : Bool) (s' : Shared) : Prop := ∃ H', Inv X pins σ H' s' ∧ Q b H'
noncomputable def AP (X : Cx) (pins : List (Addr × Obj)) (σ : St) (Q : List V → Hp → Prop) (us : List Value) (s' : Shared) : Prop := ∃ vs H', Inv X pins σ H' s' ∧ Vals vs us ∧ Q vs H'
noncomputable def SP (X : Cx) (pins : List (Addr × Obj)) (D : Ends) (f : Flow) (s' : Shared) : Prop :=
  match f with
  | .next => ∃ σ' H', Inv X pins σ' H' s' ∧ D.nx σ' H'
  | .brk => ∃ σ' H', Inv X pins σ' H' s' ∧ D.bk σ' H'
  | .cont => ∃ σ' H', Inv X pins σ' H' s' ∧ D.ct σ' H'
  | .ret u => ∃ v σ' H', Inv X pins σ' H' s' ∧ RelV v u ∧ D.rt v H'
noncomputable def PE (X : Cx) (e : Expr) (t : TE) : Prop :=
  ∀ (pins : List (Addr × Obj)) (s : Shared) (σ : St) (H : Hp) (Q : VK), Inv X pins σ H s → t σ H Q → wpAny (model X.prog X.w) X.A (eval e X.env) (EP X pins σ Q) X.xe s
noncomputable def PT (X : Cx) (e : Expr) (t : TT) : Prop :=
  ∀ (pins : List (Addr × Obj)) (s : Shared) (σ : St) (H : Hp) (Q : Bool → Hp → Prop), Inv X pins σ H s → t σ H Q → wpAny (model X.prog X.w) X.A (isTrue e X.env (eval e X.env)) (TP X pins σ Q) X.xe s
noncomputable def PW (X : Cx) (e : Expr) (t : TT) : Prop :=
  ∀ (whole : Sem Value) (pins : List (Addr × Obj)) (s : Shared) (σ : St) (H : Hp) (Q : Bool → Hp → Prop), Inv X pins σ H s → t σ H Q → wpAny (model X.prog X.w) X.A (isTrue e X.env whole) (TP X pins σ Q) X.xe s
theorem PW.pt {X : Cx} {e : Expr} {t : TT} (h : PW X e t) : PT X e t := h _
noncomputable def PA (X : Cx) (es : List Expr) (t : TA) : Prop :=
  ∀ (pos : Pos) (pins : List (Addr × Obj)) (s : Shared) (σ : St) (H : Hp) (Q : List V → Hp → Prop), Inv X pins σ H s → t σ H Q → wpAny (model X.prog X.w) X.A (spliced (backTo pos (starEach es X.env))) (AP X pins σ Q) X.xe s
noncomputable def PS (X : Cx) (st : Stmt) (t : TS) : Prop :=
  ∀ (pins : List (Addr × Obj)) (s : Shared) (σ : St) (H : Hp) (D : Ends), Inv X pins σ H s → t D σ H → wpAny (model X.prog X.w) X.A (exec st X.env) (SP X pins D) X.xe s
noncomputable def PSs (X : Cx) (st : List Stmt) (t : TS) : Prop :=
  ∀ (pins : List (Addr × Obj)) (s : Shared) (σ : St) (H : Hp) (D : Ends), Inv X pins σ H s → t D σ H → wpAny (model X.prog X.w) X.A (execs st X.env) (SP X pins D) X.xe s
theorem thn {α : Type} {t : Sem α} {Q Q' : α → Shared → Prop} {M : Model} {A : Around} {E : Value → Shared → Prop} {s : Shared} (h : wpAny M A t Q E s) (hQ : ∀ a s, Q a s → Q' a s) : wpAny M A t Q' E s := wpAny_mono h hQ fun _ _ x => x
end L2
namespace L2
open PySem PySem.Spec PyProof.Rows
section
variable {X : Cx}
noncomputable def zvk (i : Nat) : TE := fun σ H Q => ∃ v, σ[i]? = some (some v) ∧ Q v H
noncomputable def tC (v : V) : TE := fun _ H Q => Q v H
theorem zhJ {i : Nat} {x : Str} {pos : Pos} (hN : X.N[i]? = some x) (hv : Vis X.env.scope x) (hd : (x == ("__debug__" : Str)) = false := by decide) (hcd : (x == ("__classdict__" : Str)) = false := by decide) : PE X (.Name x pos) (zvk i) := by
  intro pins s σ H Q I h
  obtain ⟨v, e, h⟩ := h
  obtain ⟨m, hn, hl⟩ := I.loc
  obtain ⟨u, r, l⟩ := hl i x v hN e hv
  have fin : EP X pins σ Q u s := ⟨v, H, I, r, h⟩
  rcases l with ⟨hk, hm⟩ | ⟨hk, c, hc, zjp⟩
  · exact wpAny_Name (wpAny_loadName_local I.ok.kind hk hn hm fin) hd
  · rcases hk with hk | hk
    · exact wpAny_Name (wpAny_loadName_cell I.ok.kind hk hc zjp fin) hd
    · exact wpAny_Name (wpAny_loadName_free I.ok.kind hk hc zjp fin hcd) hd
theorem zoJ {i j pos} : PE X (.Constant (.int i) j pos) (tC (.int i)) := fun _ _ _ H _ I h => wpAny_Constant_int ⟨.int i, H, I.tok _, ⟨_, rfl⟩, h⟩
theorem zsu {b j pos} : PE X (.Constant (.bool b) j pos) (tC (.bl b)) := fun _ _ _ H _ I h => Constant_bool ⟨.bl b, H, I, rfl, h⟩
theorem zoK {j pos} : PE X (.Constant .none j pos) (tC .non) := fun _ _ _ H _ I h => Constant_none ⟨.non, H, I, rfl, h⟩
theorem zf5 {x j pos} : PE X (.Constant (.str x) j pos) (tC (.str x)) := fun _ _ _ H _ I h => Calls.Constant_str ⟨.str x, H, I.tok _, ⟨_, rfl⟩, h⟩
noncomputable def Gl (X : Cx) (x : Str) : Prop := X.env.kindOf x = some .globalImplicit
theorem zd4 {E : Value → Shared → Prop} {pins : List (Addr × Obj)} {s : Shared} {σ : St} {H : Hp} {x : Str} {u : Value} {pos : Pos} {Q : Value → Shared → Prop} (I : Inv X pins σ H s) (hg : Gl X x) (hm : X.mg x = some u) (h : Q u s)
    (hd : (x == ("__debug__" : Str)) = false := by decide) : wpAny (model X.prog X.w) X.A (eval (.Name x pos) X.env) Q E s :=
  Calls.Name_function_global I.ok.kind hg (Calls.loadGlobal_global (by rw [I.ok.glob]; exact I.mod.glob.keeps I.bk) hm h) hd
theorem zf6 {E : Value → Shared → Prop} {pins : List (Addr × Obj)} {s : Shared} {σ : St} {H : Hp} {x : Str} {u : Value} {pos : Pos} {Q : Value → Shared → Prop} (I : Inv X pins σ H s) (hg : Gl X x) (hm : X.mg x = none) (hv : bootBuiltins x = some u) (h : Q u s)
    (hn : x ≠ "__name__" := by decide) (hd : (x == ("__debug__" : Str)) = false := by decide) : wpAny (model X.prog X.w) X.A (eval (.Name x pos) X.env) Q E s := by
  obtain ⟨mb, h1, h2⟩ := I.mod.blt
  exact Calls.Name_function_global I.ok.kind hg (Calls.loadGlobal_builtin (by rw [I.ok.glob]; exact I.mod.glob.keeps I.bk) hm (by rw [I.ok.blt]; exact h1.keeps I.bk) ((h2 x hn).trans hv) h) hd
theorem zmY {x : Str} {v : V} {u : Value} {pos : Pos} (hg : Gl X x) (hm : X.mg x = some u) (r : RelV v u) (hd : (x == ("__debug__" : Str)) = false := by decide) : PE X (.Name x pos) (tC v) :=
  fun _ _ _ H _ I h => zd4 I hg hm ⟨v, H, I, r, h⟩ hd
theorem zjq {x : Str} {v : V} {u : Value} {pos : Pos} (hg : Gl X x) (hm : X.mg x = none) (hv : bootBuiltins x = some u) (r : RelV v u) (hn : x ≠ "__name__" := by decide) (hd : (x == ("__debug__" : Str)) = false := by decide) : PE X (.Name x pos) (tC v) :=
  fun _ _ _ H _ I h => zf6 I hg hm hv ⟨v, H, I, r, h⟩ hn hd
variable {a b : Expr} {ta tb : TE} {pos : Pos}
variable {tA tB' : TT} {zdD : List Expr}
noncomputable def tOr (t u : TT) : TT := fun σ H Q => t σ H fun c H1 => if c = true then Q true H1 else u σ H1 Q
noncomputable def zvl (t : TT) : TT := fun σ H Q => t σ H fun c H1 => Q (!c) H1
theorem zoL (ha : PT X a tA) : PW X (.BoolOp .Or [a] pos) tA := by
  intro wh pins s σ H Q I h
  refine isTrue_or (thn (ha pins s σ H Q I h) fun c s1 e => ?_)
  cases c with
  | false => exact isTrue_or_nil e
  | true => exact e
theorem zsv (ha : PT X a tA) (hb : PW X (.BoolOp .Or (b :: zdD) pos) tB') : PW X (.BoolOp .Or (a :: b :: zdD) pos) (tOr tA tB') := by
  intro wh pins s σ H Q I h
  refine isTrue_or (thn (ha pins s σ H _ I h) fun c s1 ⟨H1, I1, q1⟩ => ?_)
  cases c with
  | true => exact ⟨H1, I1, q1⟩
  | false => exact hb wh pins s1 σ H1 Q I1 q1
theorem zoM (ha : PT X a tA) : PT X (.UnaryOp .Not a pos) (zvl tA) := by
  intro pins s σ H Q I h
  exact isTrue_not (ha pins s σ H (fun c H1 => Q (!c) H1) I h)
noncomputable def zsw (ta tb : TE) : TE := fun σ H Q => ta σ H fun x H1 => ∃ c, x = .bl c ∧ if c = true then tb σ H1 Q else Q (.bl false) H1
theorem zoN {op} {t : TE} (h : PE X a t) : PE X (.BoolOp op [a] pos) t := fun pins s σ H Q I hw => BoolOp_one (h pins s σ H Q I hw)
theorem zoO (ha : PE X a ta) (hb : PE X (.BoolOp .And (b :: zdD) pos) tb) : PE X (.BoolOp .And (a :: b :: zdD) pos) (zsw ta tb) := by
  intro pins s σ H Q I h
  refine BoolOp_and (thn (ha pins s σ H _ I h) fun v s1 ⟨x, H1, I1, r1, q1⟩ => ?_)
  obtain ⟨c, rfl, q1⟩ := q1
  cases r1
  refine wpAny_truthy_bool ?_
  cases c with
  | true => exact hb pins s1 σ H1 Q I1 q1
  | false => exact ⟨.bl false, H1, I1, rfl, q1⟩
end
end L2
namespace L2
open PySem PySem.Spec PyProof.Rows
noncomputable def SqL (K : PySem.W.Frag) (H : Hp) (a : Addr) (xs : List V) : Prop :=
  Rd H a (.lst xs) ∨
    ∃ (o : Obj) (its : Array Value) (n : Nat), K.lookup a = some o ∧ o.cls = .type "list" ∧ o.dict = none ∧ o.data = .seq its n ∧ its.size ≤ sizeLine ∧ Vals xs its.toList
noncomputable def SqT (K : PySem.W.Frag) (H : Hp) (a : Addr) (xs : List V) : Prop :=
  Rd H a (.tup xs) ∨
    ∃ (o : Obj) (its : Array Value) (n : Nat), K.lookup a = some o ∧ o.cls = .type "tuple" ∧ o.data = .seq its n ∧ its.size ≤ sizeLine ∧ Vals xs its.toList
noncomputable def zvm : Value → Option V
  | .none => some .non
  | .bool b => some (.bl b)
  | .int i _ => some (.int i)
  | .str x _ => some (.str x)
  | .bytes b _ => some (.byt b)
  | .float b _ => some (.flt b)
  | .ref a => some (.ref a)
  | .type n => some (.ty n)
  | _ => none
theorem RelV.abs {x : V} {u : Value} (r : RelV x u) : zvm u = some x := by
  cases x with
  | non => cases r; rfl
  | bl _ => cases r; rfl
  | int _ => obtain ⟨t, rfl⟩ := r; rfl
  | str _ => obtain ⟨t, rfl⟩ := r; rfl
  | byt _ => obtain ⟨t, rfl⟩ := r; rfl
  | flt _ => obtain ⟨t, rfl⟩ := r; rfl
  | ref _ => cases r; rfl
  | ty _ => cases r; rfl
theorem RelV.inj {x y : V} {u : Value} (r : RelV x u) (q : RelV y u) : x = y := Option.some.inj (r.abs.symm.trans q.abs)
theorem Vals.inj : ∀ {xs ys : List V} {us : List Value}, Vals xs us → Vals ys us → xs = ys
  | _, _, _, .nil, .nil => rfl
  | _, _, _, .cons r t, .cons r' t' => by rw [r.inj r', Vals.inj t t']
section
variable {X : Cx} {pins : List (Addr × Obj)} {σ : St} {H : Hp} {s : Shared} {a : Addr} {xs ys : List V}
theorem SqL.of {K : PySem.W.Frag} (h : H a = some (.lst xs)) : SqL K H a xs := .inl (.inl h)
theorem SqT.of {K : PySem.W.Frag} (h : H a = some (.tup xs)) : SqT K H a xs := .inl (.inl h)
theorem Inv.list (I : Inv X pins σ H s) (h : SqL X.K H a xs) : ∃ its : List Value, Vals xs its ∧ PlainL s.heap a its.toArray ∧ xs.length ≤ sizeLine := by
  rcases h with h | ⟨o, its, n, hk, hc, hd, hs, hz, r⟩
  · obtain ⟨z, its, n, r, e⟩ := h.ok I.hok
    exact ⟨its, r, ⟨_, n, e, rfl, rfl, rfl⟩, z⟩
  · refine ⟨its.toList, r, ⟨o, n, I.kIn a o hk, hc, hd, by simpa using hs⟩, ?_⟩
    have e := r.length
    simp only [Array.length_toList] at e
    omega
theorem Inv.tuple (I : Inv X pins σ H s) (h : SqT X.K H a xs) : ∃ its : List Value, Vals xs its ∧ IsTup s.heap a its.toArray ∧ xs.length ≤ sizeLine := by
  rcases h with h | ⟨o, its, n, hk, hc, hs, hz, r⟩
  · obtain ⟨z, its, r, p⟩ := h.ok I.hok
    exact ⟨its, r, p, z⟩
  · refine ⟨its.toList, r, ⟨o, I.kIn a o hk, hc, n, by simpa using hs⟩, ?_⟩
    have e := r.length
    simp only [Array.length_toList] at e
    omega
theorem Inv.list_inj (I : Inv X pins σ H s) (h : SqL X.K H a xs) (h' : SqL X.K H a ys) : xs = ys := by
  obtain ⟨its, r, ⟨o, n, e, _, _, d⟩, _⟩ := I.list h
  obtain ⟨its', r', ⟨o', n', e', _, _, d'⟩, _⟩ := I.list h'
  rw [e] at e'; cases e'
  rw [d] at d'
  injection d' with d1 _
  have : its = its' := by simpa using congrArg Array.toList d1
  subst this
  exact r.inj r'
theorem Inv.tuple_inj (I : Inv X pins σ H s) (h : SqT X.K H a xs) (h' : SqT X.K H a ys) : xs = ys := by
  obtain ⟨its, r, ⟨o, e, _, n, d⟩, _⟩ := I.tuple h
  obtain ⟨its', r', ⟨o', e', _, n', d'⟩, _⟩ := I.tuple h'
  rw [e] at e'; cases e'
  rw [d] at d'
  injection d' with d1 _
  have : its = its' := by simpa using congrArg Array.toList d1
  subst this
  exact r.inj r'
end
noncomputable abbrev Cx.wish (X : Cx) (E : Value → Shared → Prop) : Cx := { X with xe := E }
noncomputable abbrev Cx.nox (X : Cx) : Cx := X.wish fun _ _ => False
theorem Cx.Ok.wish {X : Cx} (ok : X.Ok) (E : Value → Shared → Prop) : (X.wish E).Ok :=
  ⟨ok.mod, ok.kind, ok.glob, ok.blt, ok.above, ok.inj, ok.has, ok.cab, ok.hd, ok.frames, ok.stk, ok.exf, ok.bs, ok.bsz, ok.noex, ok.exfs, ok.funs, ok.frf⟩
theorem Cx.Ok.unwish {X : Cx} {E : Value → Shared → Prop} (ok : (X.wish E).Ok) : X.Ok :=
  ⟨ok.mod, ok.kind, ok.glob, ok.blt, ok.above, ok.inj, ok.has, ok.cab, ok.hd, ok.frames, ok.stk, ok.exf, ok.bs, ok.bsz, ok.noex, ok.exfs, ok.funs, ok.frf⟩
section
variable {X : Cx} {pins : List (Addr × Obj)} {σ : St} {H : Hp} {s : Shared} {E : Value → Shared → Prop}
theorem Inv.wish (I : Inv X pins σ H s) (E : Value → Shared → Prop) : Inv (X.wish E) pins σ H s := ⟨I.ok.wish E, I.os, I.bare, I.base, I.loc, I.cell, I.free, I.freeC, I.pin, I.hok, I.len⟩
theorem Inv.unwish (I : Inv (X.wish E) pins σ H s) : Inv X pins σ H s := ⟨I.ok.unwish, I.os, I.bare, I.base, I.loc, I.cell, I.free, I.freeC, I.pin, I.hok, I.len⟩
theorem SP.unwish {D : Ends} {f : Flow} {s' : Shared} (h : SP (X.wish E) pins D f s') : SP X pins D f s' := by
  cases f with
  | next => obtain ⟨σ', H', I, q⟩ := h; exact ⟨σ', H', I.unwish, q⟩
  | brk => obtain ⟨σ', H', I, q⟩ := h; exact ⟨σ', H', I.unwish, q⟩
  | cont => obtain ⟨σ', H', I, q⟩ := h; exact ⟨σ', H', I.unwish, q⟩
  | ret u => obtain ⟨v, σ', H', I, r, q⟩ := h; exact ⟨v, σ', H', I.unwish, r, q⟩
theorem PE.nox {e : Expr} {t : TE} (h : PE X.nox e t) : PE X e t := fun pins s σ H Q I hw =>
  wpAny_mono (h pins s σ H Q (I.wish _) hw) (fun _ _ ⟨v, H', I', r, q⟩ => ⟨v, H', I'.unwish, r, q⟩) fun _ _ z => False.elim z
theorem PT.nox {e : Expr} {t : TT} (h : PT X.nox e t) : PT X e t := fun pins s σ H Q I hw =>
  wpAny_mono (h pins s σ H Q (I.wish _) hw) (fun _ _ ⟨H', I', q⟩ => ⟨H', I'.unwish, q⟩) fun _ _ z => False.elim z
theorem PSs.nox {st : List Stmt} {t : TS} (h : PSs X.nox st t) : PSs X st t := fun pins s σ H D I hw =>
  wpAny_mono (h pins s σ H D (I.wish _) hw) (fun _ _ q => q.unwish) fun _ _ z => False.elim z
end
section
variable {X : Cx} {st : Stmt} {zdD : List Stmt} {t u : TS} {e : Expr} {te : TE} {pos : Pos}
noncomputable def zsx : TS := fun D σ H => D.nx σ H
noncomputable def zvn (t u : TS) : TS := fun D σ H => t { D with nx := u D } σ H
theorem zhg : PSs X [] zsx := fun _ _ σ H _ I h => wpAny_execs_nil ⟨σ, H, I, h⟩
theorem ze9 (h1 : PS X st t) (h2 : PSs X zdD u) : PSs X (st :: zdD) (zvn t u) := by
  intro pins s σ H D I h
  refine wpAny_execs_cons (thn (h1 pins s σ H { D with nx := u D } I h) fun f s1 q => ?_)
  cases f with
  | next =>
    obtain ⟨σ', H', I', q⟩ := q
    exact h2 pins s1 σ' H' D I' q
  | ret v => exact q
  | brk => exact q
  | cont => exact q
theorem Inv.quiet {pins : List (Addr × Obj)} {σ : St} {H : Hp} {s : Shared} (I : Inv X pins σ H s) : interactive X.env = false := by simp [interactive, I.ok.kind]
noncomputable def zsy (te : TE) : TS := fun D σ H => te σ H fun _ H1 => D.nx σ H1
theorem zjr (he : PE X e te) (hs : swapsWith e none pos.line X.env = pure false := by rfl) : PS X (.Expr e pos) (zsy te) := by
  intro pins s σ H D I h
  exact wpAny_Expr_any (thn (he pins s σ H _ I h) fun v s1 ⟨x, H1, I1, r1, q1⟩ => ⟨σ, H1, I1, q1⟩) I.quiet hs
noncomputable def zvo (te : TE) : TS := fun D σ H => te σ H D.rt
theorem zhK (he : PE X e te) : PS X (.Return (some e) pos) (zvo te) := by
  intro pins s σ H D I h
  exact wpAny_Return_some (thn (he pins s σ H _ I h) fun v s1 ⟨x, H1, I1, r1, q1⟩ => ⟨x, σ, H1, I1, r1, q1⟩)
noncomputable def zvp (c : TT) (t u : TS) : TS := fun D σ H => c σ H fun b H1 => if b = true then t D σ H1 else u D σ H1
theorem zoP {c : Expr} {a b : List Stmt} {tc : TT} (hc : PT X c tc) (ha : PSs X a t) (hb : PSs X b u) : PS X (.If c a b pos) (zvp tc t u) := by
  intro pins s σ H D I h
  refine wpAny_If (thn (hc pins s σ H _ I h) fun d s1 ⟨H1, I1, q1⟩ => ?_)
  cases d with
  | true => exact ha pins s1 σ H1 D I1 q1
  | false => exact hb pins s1 σ H1 D I1 q1
noncomputable def zoQ : TS := fun _ _ _ => False
theorem zkV : PS X st zoQ := fun _ _ _ _ _ _ h => h.elim
end
noncomputable abbrev TG := V → St → Hp → (St → Hp → Prop) → Prop
noncomputable def PG (X : Cx) (target : Expr) (t : TG) : Prop :=
  ∀ (pins : List (Addr × Obj)) (s : Shared) (σ : St) (H : Hp) (v : V) (u : Value) (Q : St → Hp → Prop), Inv X pins σ H s → RelV v u → t v σ H Q →
    wpAny (model X.prog X.w) X.A (assign target X.env u) (fun _ s' => ∃ σ' H', Inv X pins σ' H' s' ∧ Q σ' H') X.xe s
section
variable {X : Cx} {pos : Pos}
noncomputable def zmZ (i : Nat) : TG := fun v σ H Q => Q (σ.set i (some v)) H
theorem zjs {i : Nat} {x : Str} (hN : X.N.Nodup) (hi : X.N[i]? = some x) (hx : Loc X.env.scope x) (hf : X.fn x = true ∨ X.env.scope.names.lookup x = some .local := by first | exact .inl rfl | exact .inr rfl | assumption) : PG X (.Name x pos) (zmZ i) := by
  intro pins s σ H v u Q I r h
  exact wpAny_assign_Name (ze8 I hN hi hx r (fun s' I' => ⟨_, H, I', h⟩) hf)
noncomputable def zvq (te : TE) (g : TG) : TS := fun D σ H => te σ H fun x H1 => g x σ H1 D.nx
theorem zmw {i : Nat} {x : Str} {e : Expr} {te : TE} {pos' : Pos} (hN : X.N.Nodup) (hi : X.N[i]? = some x) (hx : Loc X.env.scope x) (he : PE X e te) (hs : swapsWith e (some (.Name x pos')) pos.line X.env = pure false := by rfl) (hf : X.fn x = true ∨ X.env.scope.names.lookup x = some .local := by first | exact .inl rfl | exact .inr rfl | assumption) :
    PS X (.Assign [.Name x pos'] e pos) (zvq te (zmZ i)) := by
  intro pins s σ H D I h
  refine wpAny_Assign_Name (thn (he pins s σ H _ I h) fun v s1 ⟨y, H1, I1, r1, q1⟩ => ?_) hs
  exact ze8 I1 hN hi hx r1 (fun s2 I2 => ⟨_, H1, I2, q1⟩) hf
end
structure It where
  go : Nat → Hp → Prop
  yld : Nat → Hp → V → Hp → Prop
  stop : Nat → Hp → Prop
noncomputable def zjh (X : Cx) (pins : List (Addr × Obj)) (H : Hp) (b : Addr) : Prop :=
  H b = none ∧ b ≠ X.env.locals ∧ b ∉ X.fs ∧ (b ∈ X.ex ∨ X.s₀.heap.objs.size ≤ b) ∧ (∀ x c, X.env.cells.lookup x = some c → c ≠ b) ∧ ∀ p ∈ X.pn ++ pins, p.1 ≠ b
theorem Inv.fpOk {X : Cx} {pins : List (Addr × Obj)} {σ : St} {H H' : Hp} {s : Shared} {b : Addr} (I : Inv X pins σ H s) (hb : s.heap.objs.size ≤ b) (hn : H' b = none) : zjh X pins H' b := by
  refine ⟨hn, Nat.ne_of_gt (Nat.lt_of_lt_of_le I.lt hb), I.nofs hb, .inr (Nat.le_trans I.sz hb), fun x c e z => ?_, fun p hp z => ?_⟩
  · obtain ⟨v, q⟩ := I.cell x c e
    exact absurd (Nat.lt_of_lt_of_le q.lt (by rw [z]; exact hb)) (Nat.lt_irrefl _)
  · exact absurd (Nat.lt_of_lt_of_le (Heap.lt_size (I.pin p hp).1) (by rw [z]; exact hb)) (Nat.lt_irrefl _)
structure Turn (P : Program) (w : World) (K : PySem.W.Frag) (tg : Expr) (J : It) (fp : List Addr) (it : Addr) (tn : Nat → Heap → Prop) : Prop where
  mem : it ∈ fp
  obj : ∀ i h, tn i h → ∀ b ∈ fp, ∃ o, h.get? b = some o ∧ ∀ v, o.data ≠ .cell v
  keep : ∀ i h h', tn i h → (∀ b ∈ fp, ∀ o, h.get? b = some o → h'.get? b = some o) → tn i h'
  item : ∀ (X : Cx), X.prog = P → X.w = w → X.K = K → X.calm = true → ∀ (i : Nat) (pins : List (Addr × Obj)) (s : Shared) (σ : St) (H : Hp) (E : Value → Shared → Prop), Inv X pins σ H s → (∀ b ∈ fp, zjh X pins H b) → tn i s.heap → J.go i H →
    wpAny (model P w) X.A (pyNext (.ref it)) (fun r s1 => ∃ u, r = some u ∧
      wpAny (model P w) X.A (letOwnedTupleGo tg (.ref it) u) (fun _ s2 => ∃ x H', Inv X pins σ H' s2 ∧ RelV x u ∧ J.yld i H x H' ∧ tn (i + 1) s2.heap ∧ ∀ b ∈ fp, H' b = none) E s1) E s
  done : ∀ (X : Cx), X.prog = P → X.w = w → X.K = K → X.calm = true → ∀ (i : Nat) (pins : List (Addr × Obj)) (s : Shared) (σ : St) (H : Hp) (E : Value → Shared → Prop), Inv X pins σ H s → (∀ b ∈ fp, zjh X pins H b) → tn i s.heap → J.stop i H →
    wpAny (model P w) X.A (pyNext (.ref it)) (fun r s1 => r = none ∧ Inv X pins σ H s1) E s
  self : ∀ (A : Around) (i : Nat) (s : Shared) (Q : Value → Shared → Prop) (E : Value → Shared → Prop), tn i s.heap → Q (.ref it) s → wpAny (model P w) A (pyIter (.ref it)) Q E s
noncomputable abbrev TI := St → Hp → (It → Hp → Prop) → Prop
noncomputable def PIE (X : Cx) (pins : List (Addr × Obj)) (σ : St) (tg : Expr) (R : It → Hp → Prop) (itv : Value) (s2 : Shared) : Prop :=
  ∃ (it : Addr) (fp : List Addr) (tn : Nat → Heap → Prop) (J : It) (H' : Hp), itv = .ref it ∧ Inv X pins σ H' s2 ∧ Turn X.prog X.w X.K tg J fp it tn ∧ tn 0 s2.heap ∧ (∀ b ∈ fp, zjh X pins H' b) ∧ R J H'
noncomputable def PI (X : Cx) (tg iter : Expr) (wi : TI) : Prop :=
  ∀ (pins : List (Addr × Obj)) (s : Shared) (σ : St) (H : Hp) (R : It → Hp → Prop), Inv X pins σ H s → wi σ H R →
    wpAny (model X.prog X.w) X.A (eval iter X.env) (fun v s1 => wpAny (model X.prog X.w) X.A (pyIter v) (PIE X pins σ tg R) X.xe s1) X.xe s
theorem zm0 {M : Model} {A : Around} {E : Value → Shared → Prop} {s : Shared} {tg : Expr} {it : Addr} {u : Value} {o : Obj} {n : String} {vs : Array Value} {Q : Unit → Shared → Prop} (ho : s.heap.get? it = some o) (hc : o.cls = .type n) (hd : o.data = .fields vs)
    (hn : ["enumerate", "zip", "dict_itemiterator", "dict_reverseitemiterator", "odict_iterator", "itertools.zip_longest", "itertools.pairwise"].contains n = false) (hQ : Q () s) : wpAny M A (letOwnedTupleGo tg (.ref it) u) Q E s := by
  unfold letOwnedTupleGo
  cases tg <;> first
    | exact wpAny_pure hQ
    | (cases u <;> first
        | exact wpAny_pure hQ
        | (refine wpAny_bind (wpAny_load ho ?_)
           rw [hc, hd]
           show wpAny M A (if (["enumerate", "zip", "dict_itemiterator", "dict_reverseitemiterator", "odict_iterator", "itertools.zip_longest", "itertools.pairwise"].contains n && vs[0]? == some (rawInt _)) = true then _ else _) Q E s
           rw [if_neg (by intro h; rw [hn, Bool.false_and] at h; cases h)]
           exact wpAny_pure hQ))
noncomputable def Itl (K : PySem.W.Frag) (a : Addr) : It :=
  ⟨fun i H => ∃ xs x, SqL K H a xs ∧ xs[i]? = some x, fun i H x H' => H' = H ∧ ∀ xs, SqL K H a xs → xs[i]? = some x, fun i H => ∃ xs, SqL K H a xs ∧ xs.length ≤ i⟩
noncomputable def Itt (K : PySem.W.Frag) (a : Addr) : It :=
  ⟨fun i H => ∃ xs x, SqT K H a xs ∧ xs[i]? = some x, fun i H x H' => H' = H ∧ ∀ xs, SqT K H a xs → xs[i]? = some x, fun i H => ∃ xs, SqT K H a xs ∧ xs.length ≤ i⟩
noncomputable def Itr (lo : Int) (n : Nat) : It := ⟨fun i _ => i < n, fun i H x H' => H' = H ∧ x = .int (lo + i), fun i _ => n ≤ i⟩
theorem zjt {P : Program} {w : World} {K : PySem.W.Frag} {tg : Expr} (a it : Addr) : Turn P w K tg (Itl K a) [it] it (fun i h => h.IsListIter it a i) where
  mem := by simp
  obj := fun i h st b hb => by
    have e : b = it := by simpa using hb
    subst e
    obtain ⟨o, e, c, d⟩ := st
    exact ⟨o, e, fun v z => by rw [d] at z; cases z⟩
  keep := fun i h h' st k => st.at fun o e => k it (by simp) o e
  item := by
    intro X hP hw hK hc i pins s σ H E I hf st hg
    subst hP hw hK
    obtain ⟨xs, x, hq, hx⟩ := hg
    obtain ⟨its, rv, p, hz⟩ := I.list hq
    obtain ⟨u, hu, ru⟩ := rv.get hx
    obtain ⟨f0, f1, f2, f3, f4, f5⟩ := hf it (by simp)
    refine wpAny_pyNext_list_item st p.isList (x := u) (by simpa using hu) fun h' st' sb => ?_
    have I1 : Inv X pins σ H { s with heap := h' } := I.turned (t' := s.toks) (fun b o hb e => (sb.2 b hb).trans e) f0 f1 f3 f4 f5
    obtain ⟨o, e, c, d⟩ := id st'
    exact ⟨u, rfl, zm0 (s := { s with heap := h' }) e c d (by decide) ⟨x, H, I1, ru, ⟨rfl, fun ys hy => by rw [I.list_inj hy hq]; exact hx⟩, st', fun b hb => (hf b hb).1⟩⟩
  done := by
    intro X hP hw hK hc i pins s σ H E I hf st hg
    subst hP hw hK
    obtain ⟨xs, hq, hx⟩ := hg
    obtain ⟨its, rv, p, hz⟩ := I.list hq
    obtain ⟨f0, f1, f2, f3, f4, f5⟩ := hf it (by simp)
    have hl := rv.length
    exact wpAny_pyNext_list_end (I.ok.hd hc) st p.isList (by simp; omega) fun h' eb => ⟨rfl, I.turned (t' := s.toks) (fun b o hb e => eb b o hb e) f0 f1 f3 f4 f5⟩
  self := fun _ _ _ _ _ st h => wpAny_pyIter_listiter st h
theorem zio {P : Program} {w : World} {K : PySem.W.Frag} {tg : Expr} (a it : Addr) : Turn P w K tg (Itt K a) [it] it (fun i h => h.IsTupleIter it a i) where
  mem := by simp
  obj := fun i h st b hb => by
    have e : b = it := by simpa using hb
    subst e
    obtain ⟨o, e, c, d⟩ := st
    exact ⟨o, e, fun v z => by rw [d] at z; cases z⟩
  keep := fun i h h' st k => st.at fun o e => k it (by simp) o e
  item := by
    intro X hP hw hK hc i pins s σ H E I hf st hg
    subst hP hw hK
    obtain ⟨xs, x, hq, hx⟩ := hg
    obtain ⟨its, rv, p, hz⟩ := I.tuple hq
    obtain ⟨u, hu, ru⟩ := rv.get hx
    obtain ⟨f0, f1, f2, f3, f4, f5⟩ := hf it (by simp)
    refine wpAny_pyNext_tuple_item st (show s.heap.IsTuple a its.toArray from p) (x := u) (by simpa using hu) fun h' st' sb => ?_
    have I1 : Inv X pins σ H { s with heap := h' } := I.turned (t' := s.toks) (fun b o hb e => (sb.2 b hb).trans e) f0 f1 f3 f4 f5
    obtain ⟨o, e, c, d⟩ := id st'
    exact ⟨u, rfl, zm0 (s := { s with heap := h' }) e c d (by decide) ⟨x, H, I1, ru, ⟨rfl, fun ys hy => by rw [I.tuple_inj hy hq]; exact hx⟩, st', fun b hb => (hf b hb).1⟩⟩
  done := by
    intro X hP hw hK hc i pins s σ H E I hf st hg
    subst hP hw hK
    obtain ⟨xs, hq, hx⟩ := hg
    obtain ⟨its, rv, p, hz⟩ := I.tuple hq
    obtain ⟨f0, f1, f2, f3, f4, f5⟩ := hf it (by simp)
    have hl := rv.length
    exact wpAny_pyNext_tuple_end (I.ok.hd hc) st (show s.heap.IsTuple a its.toArray from p) (by simp; omega) fun h' eb => ⟨rfl, I.turned (t' := s.toks) (fun b o hb e => eb b o hb e) f0 f1 f3 f4 f5⟩
  self := fun _ _ _ _ _ st h => wpAny_pyIter_tupleiter st h
theorem ziq {P : Program} {w : World} {K : PySem.W.Frag} {tg : Expr} (it : Addr) (lo : Int) (n : Nat) : Turn P w K tg (Itr lo n) [it] it (fun i h => IsRangeIter h it (lo + (i : Nat) * 1) ((n : Int) - (i : Nat)) 1) where
  mem := by simp
  obj := fun i h st b hb => by
    have e : b = it := by simpa using hb
    subst e
    exact ⟨_, st, fun v z => by
      have z' : Data.fields _ = Data.cell v := z
      cases z'⟩
  keep := fun i h h' st k => k it (by simp) _ st
  item := by
    intro X hP hw hK hc i pins s σ H E I hf st hg
    subst hP hw hK
    obtain ⟨f0, f1, f2, f3, f4, f5⟩ := hf it (by simp)
    have W := Walks.range (prog := X.prog) (w := X.w) (I.ok.hd hc) it lo 1 n
    refine W.item i s _ _ hg st fun v h' tk hv st' kk => ?_
    obtain ⟨t, rfl⟩ := hv
    have I1 : Inv X pins σ H { s with heap := h', toks := tk } := I.turned (fun b o hb e => kk b o (by simpa using hb) e) f0 f1 f3 f4 f5
    refine ⟨_, rfl, zm0 (s := { s with heap := h', toks := tk }) (n := "range_iterator") st' rfl rfl (by decide) ⟨.int (lo + i), H, I1, ⟨t, ?_⟩, ⟨rfl, rfl⟩, st', fun b hb => (hf b hb).1⟩⟩
    rw [Int.mul_one]
  done := by
    intro X hP hw hK hc i pins s σ H E I hf st hg
    subst hP hw hK
    obtain ⟨f0, f1, f2, f3, f4, f5⟩ := hf it (by simp)
    exact wpAny_pyNext_range_end (I.ok.hd hc) st (by have : n ≤ i := hg; omega) fun h' eb => ⟨rfl, I.turned (t' := s.toks) (fun b o hb e => eb b o hb e) f0 f1 f3 f4 f5⟩
  self := fun _ _ _ _ _ st h => wpAny_pyIter_rangeiter st h
end L2
namespace L2
open PySem PySem.Spec PyProof.Rows
section
variable {X : Cx} {tg : Expr}
theorem zhL {pins : List (Addr × Obj)} {σ : St} {H : Hp} {s : Shared} {R : It → Hp → Prop} {E : Value → Shared → Prop} {lo hi : Int} {t u v : Tok} {tk : Nat} (I : Inv X pins σ H s) (h1 : -(2 ^ 62) ≤ lo) (h2 : lo < 2 ^ 62) (h3 : -(2 ^ 62) ≤ hi) (h4 : hi < 2 ^ 62)
    (q : R (Itr lo (hi - lo).toNat) H) : wpAny (model X.prog X.w) X.A (pyIter (.ref s.heap.objs.size)) (PIE X pins σ tg R) E { s with heap := s.heap.push { cls := .type "range", data := .fields #[.int lo t, .int hi u, .int 1 v] }, toks := tk } := by
  refine wpAny_pyIter_range (IsRange.new ..) (small_one h1 h2 h3 h4) ?_
  have I1 : Inv X pins σ H { s with heap := s.heap.push { cls := .type "range", data := .fields #[.int lo t, .int hi u, .int 1 v] }, toks := tk } := I.kept fun b o e => Heap.get?_push_of_some _ e
  refine ⟨(s.heap.push { cls := .type "range", data := .fields #[.int lo t, .int hi u, .int 1 v] }).objs.size, [(s.heap.push { cls := .type "range", data := .fields #[.int lo t, .int hi u, .int 1 v] }).objs.size], _, _, H, rfl,
    I1.kept (t' := tk) fun b o e => Heap.get?_push_of_some _ e, ziq _ lo (hi - lo).toNat, ?_, fun b hb => ?_, q⟩
  · have e1 : lo + ((0 : Nat) : Int) * 1 = lo := by simp
    have e2 : (((hi - lo).toNat : Nat) : Int) - ((0 : Nat) : Int) = Builtin.Range.rangeSize lo hi 1 := by rw [rangeSize_one]; split <;> omega
    show IsRangeIter _ _ (lo + ((0 : Nat) : Int) * 1) ((((hi - lo).toNat : Nat) : Int) - ((0 : Nat) : Int)) 1
    rw [e1, e2]
    exact Heap.get?_push_size _ rfl
  · have e : b = (s.heap.push { cls := .type "range", data := .fields #[.int lo t, .int hi u, .int 1 v] }).objs.size := by simpa using hb
    subst e
    exact I1.fpOk (Nat.le_refl _) (I1.hok.fresh (Nat.le_refl _))
noncomputable def zsz (ta : TA) : TI := fun σ H R => ta σ H fun vs H1 => ∃ j : Int, vs = [.int j] ∧ -(2 ^ 62) ≤ j ∧ j < 2 ^ 62 ∧ R (Itr 0 j.toNat) H1
noncomputable def zsA (ta : TA) : TI := fun σ H R => ta σ H fun vs H1 => ∃ i j : Int, vs = [.int i, .int j] ∧ (-(2 ^ 62) ≤ i ∧ i < 2 ^ 62 ∧ -(2 ^ 62) ≤ j ∧ j < 2 ^ 62) ∧ R (Itr i (j - i).toNat) H1
theorem zju {a : Expr} {ta : TA} {p pos : Pos} (hg : Gl X "range") (hm : X.mg "range" = none) (ha : PA X [a] ta) (hs : starEach [a] X.env = [(false, eval a X.env)] := by rfl) : PI X tg (.Call (.Name "range" p) [a] [] pos) (zsz ta) := by
  intro pins s σ H R I h
  refine Call_ (zf6 I hg hm boot_range (PyProof.Rows.callWith_type1 (thn (ha pos pins s σ H _ I h) fun us s1 ⟨vs, H1, I1, r1, q1⟩ => ?_) hs rfl))
  obtain ⟨j, e, q1, q2, q⟩ := q1
  subst e
  cases r1 with
  | cons r rr =>
    cases rr
    obtain ⟨t, rfl⟩ := r
    exact call_range_1 (zhL I1 (by omega) (by omega) q1 q2 (by simpa using q))
theorem zjv {a b : Expr} {ta : TA} {p pos : Pos} (hg : Gl X "range") (hm : X.mg "range" = none) (ha : PA X [a, b] ta) (hs : starEach [a, b] X.env = [(false, eval a X.env), (false, eval b X.env)] := by rfl) (hs2 : starEach [b] X.env = [(false, eval b X.env)] := by rfl) :
    PI X tg (.Call (.Name "range" p) [a, b] [] pos) (zsA ta) := by
  intro pins s σ H R I h
  refine Call_ (zf6 I hg hm boot_range (PyProof.Rows.callWith_type1 (thn (ha pos pins s σ H _ I h) fun us s1 ⟨vs, H1, I1, r1, q1⟩ => ?_) (by rw [hs, hs2]) (by rw [hs2]; rfl)))
  obtain ⟨i, j, e, ⟨q1, q2, q3, q4⟩, q⟩ := q1
  subst e
  cases r1 with
  | cons r rr =>
    cases rr with
    | cons r' rr =>
      cases rr
      obtain ⟨t, rfl⟩ := r
      obtain ⟨t', rfl⟩ := r'
      exact call_range_2 (zhL I1 q1 q2 q3 q4 q)
noncomputable def zvr (wi : TI) (g : TG) (tb : TS) : TS := fun D σ H => wi σ H fun J H1 => ∃ W : Nat → Nat → St → Hp → Prop, (∃ m, W 0 m σ H1) ∧ ∀ i m σ H, W i m σ H →
  (J.stop i H ∧ D.nx σ H) ∨ (J.go i H ∧ ∃ N : St → Hp → Prop, (∀ σ' H', N σ' H' → ∃ m', m' < m ∧ W (i + 1) m' σ' H') ∧ ∀ x H', J.yld i H x H' → g x σ H' fun σ2 H2 => tb { D with nx := N, ct := N, bk := D.nx } σ2 H2)
noncomputable def zf7 (fp : List Addr) (h : Heap) : List (Addr × Obj) := fp.filterMap fun b => (h.get? b).map fun o => (b, o)
theorem zcx {fp : List Addr} {h : Heap} {b : Addr} {o : Obj} (hb : b ∈ fp) (e : h.get? b = some o) : (b, o) ∈ zf7 fp h := List.mem_filterMap.mpr ⟨b, hb, by rw [e]; rfl⟩
theorem zjw {fp : List Addr} {h : Heap} {p : Addr × Obj} (hp : p ∈ zf7 fp h) : p.1 ∈ fp ∧ h.get? p.1 = some p.2 := by
  obtain ⟨b, hb, e⟩ := List.mem_filterMap.mp hp
  cases q : h.get? b with
  | none => rw [q] at e; cases e
  | some o =>
    rw [q] at e
    have e' : (b, o) = p := Option.some.inj e
    subst e'
    exact ⟨hb, q⟩
theorem Inv.pinned {pins : List (Addr × Obj)} {σ : St} {H : Hp} {s : Shared} {fp : List Addr} (I : Inv X pins σ H s) (hf : ∀ b ∈ fp, zjh X pins H b) (ho : ∀ b ∈ fp, ∃ o, s.heap.get? b = some o ∧ ∀ v, o.data ≠ .cell v) : Inv X (pins ++ zf7 fp s.heap) σ H s :=
  I.pins_of fun p hp => (List.mem_append.mp hp).elim (fun z => I.pin p (List.mem_append_right _ z)) fun z => by
    obtain ⟨hb, e⟩ := zjw z
    obtain ⟨f0, f1, f2, _⟩ := hf p.1 hb
    obtain ⟨o, e', d⟩ := ho p.1 hb
    rw [e] at e'; cases e'
    exact ⟨e, f0, f1, f2, d⟩
theorem Inv.unpinned {pins pl : List (Addr × Obj)} {σ : St} {H : Hp} {s : Shared} (I : Inv X (pins ++ pl) σ H s) : Inv X pins σ H s := I.pins_of fun p hp => I.pin p (List.mem_append_right _ (List.mem_append_left _ hp))
theorem zoR {iter : Expr} {body : List Stmt} {wi : TI} {g : TG} {tb : TS} {pos : Pos} (hp : PassesOwn (model X.prog X.w) X.A X.env X.xe) (hc : X.calm = true) (hi : PI X tg iter wi) (hg : PG X tg g) (hb : PSs X body tb)
    (hs : ∀ x, foldedSetIterable iter X.env x = pure x := by intro _; rfl) : PS X (.For tg iter body [] pos) (zvr wi g tb) := by
  intro pins s σ H D I h
  refine wpAny_For (thn (hi pins s σ H _ I h) fun v s1 h1 => thn h1 fun itv s2 h2 => ?_) hs
  obtain ⟨it, fp, tn, J, H2, e, I2, T, st2, f2, W, ⟨m0, w0⟩, turn⟩ := h2
  subst e
  have stat : ∀ {H' : Hp}, (∀ b ∈ fp, H' b = none) → ∀ b ∈ fp, zjh X pins H' b := fun hn b hb => ⟨hn b hb, (f2 b hb).2⟩
  refine codeAny_forLoop_any (fun n s' => ∃ i σ' H', Inv X pins σ' H' s' ∧ tn i s'.heap ∧ (∀ b ∈ fp, H' b = none) ∧ W i n σ' H') ?_ m0 ⟨0, σ, H2, I2, st2, fun b hb => (f2 b hb).1, w0⟩
  rintro n s3 ⟨i, σ3, H3, I3, st3, fr3, w3⟩
  rcases turn i n σ3 H3 w3 with ⟨stop, qn⟩ | ⟨go, N, hN, step⟩
  · refine wpAny_passesOwn hp (thn (T.done X rfl rfl rfl hc i pins s3 σ3 H3 X.xe I3 (stat fr3) st3 stop) fun r s4 ⟨hr, I4⟩ => ?_)
    subst hr
    exact wpAny_execs_nil ⟨σ3, H3, I4, qn⟩
  · refine wpAny_passesOwn hp (thn (T.item X rfl rfl rfl hc i pins s3 σ3 H3 X.xe I3 (stat fr3) st3 go) fun r s4 ⟨u, hr, h4⟩ => ?_)
    subst hr
    refine wpAny_passesOwn hp (thn h4 fun _ s5 ⟨x, H5, I5, r5, y5, st5, fr5⟩ => ?_)
    have I5' := I5.pinned (stat fr5) (T.obj _ _ st5)
    refine wpAny_passesOwn hp (thn (hg _ s5 σ3 H5 x u _ I5' r5 (step x H5 y5)) fun _ s6 ⟨σ6, H6, I6, q6⟩ => ?_)
    refine wpAny_passesOwn hp (thn (hb _ s6 σ6 H6 _ I6 q6) fun f s7 q7 => ?_)
    have again : ∀ {σ7 : St} {H7 : Hp}, Inv X (pins ++ zf7 fp s5.heap) σ7 H7 s7 → N σ7 H7 → ∃ m, m < n ∧ ∃ i σ' H', Inv X pins σ' H' s7 ∧ tn i s7.heap ∧ (∀ b ∈ fp, H' b = none) ∧ W i m σ' H' := fun {σ7 H7} I7 n7 => by
      obtain ⟨m', hm, w7⟩ := hN σ7 H7 n7
      refine ⟨m', hm, i + 1, σ7, H7, I7.unpinned, T.keep _ _ _ st5 fun b hb o e => (I7.pin (b, o) (List.mem_append_right _ (List.mem_append_right _ (zcx hb e)))).1, fun b hb => ?_, w7⟩
      obtain ⟨o, e, d⟩ := T.obj _ _ st5 b hb
      exact (I7.pin (b, o) (List.mem_append_right _ (List.mem_append_right _ (zcx hb e)))).2.1
    cases f with
    | next => obtain ⟨σ7, H7, I7, n7⟩ := q7; exact again I7 n7
    | cont => obtain ⟨σ7, H7, I7, n7⟩ := q7; exact again I7 n7
    | brk => obtain ⟨σ7, H7, I7, q7⟩ := q7; exact ⟨σ7, H7, I7.unpinned, q7⟩
    | ret v => obtain ⟨x7, σ7, H7, I7, r7, q7⟩ := q7; exact ⟨x7, σ7, H7, I7.unpinned, r7, q7⟩
end
end L2
namespace L2
open PySem PySem.Spec PyProof.Rows
noncomputable abbrev R2 := V → V → Hp → VK → Prop
noncomputable def OpR (X : Cx) (f : Value → Value → Sem Value) (r : R2) : Prop :=
  ∀ (pins : List (Addr × Obj)) (s : Shared) (σ : St) (H : Hp) (x y : V) (v u : Value) (Q : VK), Inv X pins σ H s → RelV x v → RelV y u → r x y H Q →
    wpAny (model X.prog X.w) X.A (f v u) (EP X pins σ Q) X.xe s
noncomputable def UnR (X : Cx) (f : Value → Sem Value) (r : V → Hp → VK → Prop) : Prop :=
  ∀ (pins : List (Addr × Obj)) (s : Shared) (σ : St) (H : Hp) (x : V) (v : Value) (Q : VK), Inv X pins σ H s → RelV x v → r x H Q →
    wpAny (model X.prog X.w) X.A (f v) (EP X pins σ Q) X.xe s
noncomputable def CallR (X : Cx) (f : Value) (r : List V → Hp → VK → Prop) : Prop :=
  ∀ (pins : List (Addr × Obj)) (s : Shared) (σ : St) (H : Hp) (xs : List V) (us : List Value) (Q : VK), Inv X pins σ H s → Vals xs us → r xs H Q →
    wpAny (model X.prog X.w) X.A (call f us) (EP X pins σ Q) X.xe s
noncomputable def zvs (X : Cx) (r : V → Hp → (Bool → Hp → Prop) → Prop) : Prop :=
  ∀ (pins : List (Addr × Obj)) (s : Shared) (σ : St) (H : Hp) (x : V) (v : Value) (Q : Bool → Hp → Prop), Inv X pins σ H s → RelV x v → r x H Q →
    wpAny (model X.prog X.w) X.A (truthy v) (TP X pins σ Q) X.xe s
noncomputable def tOp (r : R2) (ta tb : TE) : TE := fun σ H Q => ta σ H fun x H1 => tb σ H1 fun y H2 => r x y H2 Q
noncomputable def tUn (r : V → Hp → VK → Prop) (ta : TE) : TE := fun σ H Q => ta σ H fun x H1 => r x H1 Q
noncomputable def rI (C : Int → Int → Prop) (g : Int → Int → V) : R2 := fun x y H Q => ∃ i j, x = .int i ∧ y = .int j ∧ C i j ∧ Q (g i j) H
noncomputable def rI0 (g : Int → Int → V) : R2 := fun x y H Q => ∃ i j, x = .int i ∧ y = .int j ∧ Q (g i j) H
noncomputable def rU (g : Int → V) : V → Hp → VK → Prop := fun x H Q => ∃ i, x = .int i ∧ Q (g i) H
section
variable {X : Cx} {a b c : Expr} {ta tb tc : TE} {pos : Pos}
theorem zsB (ha : PE X a ta) (hb : PE X b tb) {pins : List (Addr × Obj)} {s : Shared} {σ : St} {H : Hp} {R : V → V → Hp → Prop} (I : Inv X pins σ H s)
    (h : ta σ H fun x H1 => tb σ H1 fun y H2 => R x y H2) {Q : Value → Shared → Prop} {f : Value → Value → Sem Value}
    (hf : ∀ v u s2 x y H2, Inv X pins σ H2 s2 → RelV x v → RelV y u → R x y H2 → wpAny (model X.prog X.w) X.A (f v u) Q X.xe s2) :
    wpAny (model X.prog X.w) X.A (eval a X.env) (fun v s₁ => wpAny (model X.prog X.w) X.A (eval b X.env) (fun u s₂ => wpAny (model X.prog X.w) X.A (f v u) Q X.xe s₂) X.xe s₁) X.xe s := by
  refine thn (ha pins s σ H _ I h) fun v s1 ⟨x, H1, I1, r1, q1⟩ => ?_
  refine thn (hb pins s1 σ H1 _ I1 q1) fun u s2 ⟨y, H2, I2, r2, q2⟩ => ?_
  exact hf v u s2 x y H2 I2 r1 r2 q2
theorem zsC {op : Operator} {r : R2} (ho : OpR X (binaryOp op) r) (ha : PE X a ta) (hb : PE X b tb) : PE X (.BinOp a op b pos) (tOp r ta tb) := by
  intro pins s σ H Q I h
  exact wpAny_BinOp (zsB ha hb I h fun v u s2 x y H2 I2 rx ry q => ho pins s2 σ H2 x y v u Q I2 rx ry q)
theorem zsD {op : UnaryOp} {r : V → Hp → VK → Prop} (ho : UnR X (unaryOp op) r) (ha : PE X a ta) : PE X (.UnaryOp op a pos) (tUn r ta) := by
  intro pins s σ H Q I h
  exact UnaryOp_ (thn (ha pins s σ H _ I h) fun v s1 ⟨x, H1, I1, r1, q1⟩ => ho pins s1 σ H1 x v Q I1 r1 q1)
theorem opI {f : Value → Value → Sem Value} {C : Int → Int → Prop} {g : Int → Int → Int}
    (rule : ∀ (i j : Int) (t u : Tok) (s : Shared) (Q : Value → Shared → Prop) (E : Value → Shared → Prop), C i j → Q (.int (g i j) s.toks) { s with toks := s.toks + 1 } → wpAny (model X.prog X.w) X.A (f (.int i t) (.int j u)) Q E s) :
    OpR X f (rI C fun i j => .int (g i j)) := by
  intro pins s σ H x y v u Q I rx ry h
  obtain ⟨i, j, rfl, rfl, hc, q⟩ := h
  obtain ⟨t, rfl⟩ := rx
  obtain ⟨t', rfl⟩ := ry
  exact rule i j t t' s _ _ hc ⟨.int (g i j), H, I.tok _, ⟨_, rfl⟩, q⟩
theorem zuD {f : Value → Value → Sem Value} {g : Int → Int → Int}
    (rule : ∀ (i j : Int) (t u : Tok) (s : Shared) (Q : Value → Shared → Prop) (E : Value → Shared → Prop), Q (.int (g i j) s.toks) { s with toks := s.toks + 1 } → wpAny (model X.prog X.w) X.A (f (.int i t) (.int j u)) Q E s) :
    OpR X f (rI0 fun i j => .int (g i j)) := by
  intro pins s σ H x y v u Q I rx ry h
  obtain ⟨i, j, rfl, rfl, q⟩ := h
  obtain ⟨t, rfl⟩ := rx
  obtain ⟨t', rfl⟩ := ry
  exact rule i j t t' s _ _ ⟨.int (g i j), H, I.tok _, ⟨_, rfl⟩, q⟩
theorem zsE {f : Value → Value → Sem Value} {g : Int → Int → Bool}
    (rule : ∀ (i j : Int) (t u : Tok) (s : Shared) (Q : Value → Shared → Prop) (E : Value → Shared → Prop), Q (.bool (g i j)) s → wpAny (model X.prog X.w) X.A (f (.int i t) (.int j u)) Q E s) :
    OpR X f (rI0 fun i j => .bl (g i j)) := by
  intro pins s σ H x y v u Q I rx ry h
  obtain ⟨i, j, rfl, rfl, q⟩ := h
  obtain ⟨t, rfl⟩ := rx
  obtain ⟨t', rfl⟩ := ry
  exact rule i j t t' s _ _ ⟨.bl (g i j), H, I, rfl, q⟩
noncomputable def zvt (i j : Int) : Prop := 0 < j ∧ j < 1073741824
noncomputable def CMul (i j : Int) : Prop := (-(2 ^ 64) < i ∧ i < 2 ^ 64) ∨ (-(2 ^ 64) < j ∧ j < 2 ^ 64)
theorem CMul.ok {i j : Int} (h : CMul i j) : IntMulOk i j := by
  rcases h with ⟨h1, h2⟩ | ⟨h1, h2⟩
  · exact .of_left (intBits_le_64 h1 h2)
  · exact .of_right (intBits_le_64 h1 h2)
theorem zoS : OpR X (binaryOp .Add) (rI0 fun i j => .int (i + j)) := zuD fun _ _ _ _ _ _ _ q => add_int q
theorem zoT : OpR X (binaryOp .Sub) (rI0 fun i j => .int (i - j)) := zuD fun _ _ _ _ _ _ _ q => sub_int q
theorem zoU : OpR X (binaryOp .Mult) (rI CMul fun i j => .int (i * j)) := opI fun _ _ _ _ _ _ _ hc q => mul_int q hc.ok
theorem zm1 : OpR X (binaryOp .FloorDiv) (rI zvt fun i j => .int (i / j)) := opI fun i j _ _ _ _ _ hc q => by
  have h1 : (0 : Int) < j := hc.1
  have h2 : j < 1073741824 := hc.2
  exact floordiv_int (by omega) (by rw [Int.fdiv_eq_ediv_of_nonneg i (by omega)]; exact q) (.inl (PyProof.noPylong_small (by omega)))
theorem zoV : OpR X (binaryOp .Mod) (rI (fun _ j => 0 < j) fun i j => .int (i % j)) := opI fun i j _ _ _ _ _ hc q => by
  have h1 : (0 : Int) < j := hc
  exact mod_int' (by omega) (by rw [Int.fmod_eq_emod_of_nonneg i (by omega)]; exact q)
theorem unI {f : Value → Sem Value} {g : Int → Int}
    (rule : ∀ (i : Int) (t : Tok) (s : Shared) (Q : Value → Shared → Prop) (E : Value → Shared → Prop), Q (.int (g i) s.toks) { s with toks := s.toks + 1 } → wpAny (model X.prog X.w) X.A (f (.int i t)) Q E s) :
    UnR X f (rU fun i => .int (g i)) := by
  intro pins s σ H x v Q I rx h
  obtain ⟨i, rfl, q⟩ := h
  obtain ⟨t, rfl⟩ := rx
  exact rule i t s _ _ ⟨.int (g i), H, I.tok _, ⟨_, rfl⟩, q⟩
theorem zoW : UnR X (unaryOp .USub) (rU fun i => .int (-i)) := unI fun _ _ _ _ _ q => neg_int q
end
section
variable {X : Cx} {a b c : Expr} {ta tb tc : TE} {pos : Pos}
theorem zsF : OpR X (compareOp .Lt) (rI0 fun i j => .bl (decide (i < j))) := zsE fun _ _ _ _ _ _ _ q => lt_int q
theorem zsG : OpR X (compareOp .LtE) (rI0 fun i j => .bl (decide (i ≤ j))) := zsE fun _ _ _ _ _ _ _ q => le_int q
theorem zsH : OpR X (compareOp .Gt) (rI0 fun i j => .bl (decide (j < i))) := zsE fun _ _ _ _ _ _ _ q => gt_int q
noncomputable def zsI : HO → Bool
  | .lst _ => true
  | .ins _ _ _ => true
  | _ => false
theorem obj_there {pins : List (Addr × Obj)} {s : Shared} {σ : St} {H : Hp} {a : Addr} {o : HO} (I : Inv X pins σ H s) (h : H a = some o) (p : zsI o = true) : ∃ ob, s.heap.get? a = some ob ∧ ob.cls ≠ .type "tuple" := by
  cases o with
  | lst xs =>
    obtain ⟨_, its, n, _, e⟩ : xs.length ≤ sizeLine ∧ ∃ (its : List Value) (n : Nat), Vals xs its ∧ s.heap.get? a = some { cls := .type "list", data := .seq its.toArray n } := I.hok a _ h
    exact ⟨_, e, (by show Value.type "list" ≠ .type "tuple"; decide +kernel)⟩
  | ins C dx fs =>
    have x := I.hok a _ h
    obtain ⟨_, _, _, e, _⟩ := x
    exact ⟨_, e, (by show Value.ref C ≠ .type "tuple"; exact fun z => by cases z)⟩
  | _ => exact absurd (show false = true from p) Bool.false_ne_true
theorem OpR.or {f : Value → Value → Sem Value} {r r' : R2} (h : OpR X f r) (h' : OpR X f r') : OpR X f (fun x y H Q => r x y H Q ∨ r' x y H Q) := by
  intro pins s σ H x y v u Q I rx ry q
  rcases q with q | q
  · exact h pins s σ H x y v u Q I rx ry q
  · exact h' pins s σ H x y v u Q I rx ry q
theorem zbc (b : Expr) {op : CmpOp} (h : op ≠ .In := by decide) (h2 : op ≠ .NotIn := by decide) : behindInMarks op b = false := by
  have e1 : (op == CmpOp.In) = false := by cases op <;> first | rfl | exact absurd rfl h
  have e2 : (op == CmpOp.NotIn) = false := by cases op <;> first | rfl | exact absurd rfl h2
  cases b <;> simp [behindInMarks, e1, e2]
theorem zm2 {op : CmpOp} {r : R2} (ho : OpR X (compareOp op) r) (ha : PE X a ta) (hb : PE X b tb) (hm : behindInMarks op b = false) : PE X (.Compare a [op] [b] pos) (tOp r ta tb) := by
  intro pins s σ H Q I h
  exact wpAny_Compare1 (zsB ha hb I h fun v u s2 x y H2 I2 rx ry q => ho pins s2 σ H2 x y v u Q I2 rx ry q) hm
noncomputable def zoX (t : TE) : TT := fun σ H Q => t σ H fun x H' => ∃ k, x = .bl k ∧ Q k H'
theorem zm3 {op : CmpOp} {r : R2} (ho : OpR X (compareOp op) r) (ha : PE X a ta) (hb : PE X b tb) (hm : behindInMarks op b = false) : PT X (.Compare a [op] [b] pos) (zoX (tOp r ta tb)) := by
  intro pins s σ H Q I h
  refine wpAny_isTrue_Compare1 (thn (ha pins s σ H _ I h) fun v s1 ⟨x, H1, I1, r1, q1⟩ => thn (hb pins s1 σ H1 _ I1 q1) fun u s2 ⟨y, H2, I2, r2, q2⟩ =>
    thn (ho pins s2 σ H2 x y v u _ I2 r1 r2 q2) fun c s3 ⟨z, H3, I3, r3, k, e, q3⟩ => ?_) hm
  subst e
  cases r3
  exact wpAny_truthy_bool ⟨H3, I3, q3⟩
noncomputable def zmx (r r' : R2) (ta tb tc : TE) : TE := fun σ H Q => ta σ H fun x H1 => tb σ H1 fun y H2 => r x y H2 fun z H3 => ∃ k, z = .bl k ∧
  (if k = true then tc σ H3 fun w' H4 => r' y w' H4 Q else Q (.bl false) H3)
theorem zkW {op op' : CmpOp} {r r' : R2} (ho : OpR X (compareOp op) r) (ho' : OpR X (compareOp op') r') (ha : PE X a ta) (hb : PE X b tb) (hc : PE X c tc)
    (hm : lastMarks [op, op'] [b, c] = false := by with_unfolding_all rfl) : PE X (.Compare a [op, op'] [b, c] pos) (zmx r r' ta tb tc) := by
  intro pins s σ H Q I h
  refine Compare_chain (thn (ha pins s σ H _ I h) fun v s1 ⟨x, H1, I1, r1, q1⟩ => chain_link (thn (hb pins s1 σ H1 _ I1 q1) fun u s2 ⟨y, H2, I2, r2, q2⟩ =>
    thn (ho pins s2 σ H2 x y v u _ I2 r1 r2 q2) fun d s3 ⟨z, H3, I3, r3, k, e, q3⟩ => ?_)) hm
  subst e
  cases r3
  refine wpAny_truthy_bool ?_
  cases k with
  | false => exact ite_ff ⟨.bl false, H3, I3, rfl, q3⟩
  | true => exact ite_tt (chain_last (thn (hc pins s3 σ H3 _ I3 q3) fun w' s4 ⟨z', H4, I4, r4, q4⟩ => ho' pins s4 σ H4 y z' u w' Q I4 r2 r4 q4))
theorem zkX {op op' : CmpOp} {r r' : R2} (ho : OpR X (compareOp op) r) (ho' : OpR X (compareOp op') r') (ha : PE X a ta) (hb : PE X b tb) (hc : PE X c tc)
    (hm : lastMarks [op, op'] [b, c] = false := by with_unfolding_all rfl) : PT X (.Compare a [op, op'] [b, c] pos) (zoX (zmx r r' ta tb tc)) := by
  intro pins s σ H Q I h
  refine isTrue_chain (thn (ha pins s σ H _ I h) fun v s1 ⟨x, H1, I1, r1, q1⟩ => test_link (thn (hb pins s1 σ H1 _ I1 q1) fun u s2 ⟨y, H2, I2, r2, q2⟩ =>
    thn (ho pins s2 σ H2 x y v u _ I2 r1 r2 q2) fun d s3 ⟨z, H3, I3, r3, k, e, q3⟩ => ?_)) hm
  subst e
  cases r3
  refine wpAny_truthy_bool ?_
  cases k with
  | false =>
    obtain ⟨k', e', q'⟩ := q3
    cases e'
    exact ite_ff ⟨H3, I3, q'⟩
  | true =>
    refine ite_tt (test_last (thn (hc pins s3 σ H3 _ I3 q3) fun w' s4 ⟨z', H4, I4, r4, q4⟩ => thn (ho' pins s4 σ H4 y z' u w' _ I4 r2 r4 q4) fun d' s5 ⟨z2, H5, I5, r5, k2, e2, q5⟩ => ?_))
    subst e2
    cases r5
    exact wpAny_truthy_bool ⟨H5, I5, q5⟩
noncomputable def zsJ (K : PySem.W.Frag) (x : V) (H : Hp) (k : Bool) : Prop :=
  match x with
  | .non => k = false
  | .bl b => k = b
  | .int i => k = (i != 0)
  | .str y => y.length ≤ sizeLine ∧ k = ((y.length : Int) != 0)
  | .byt y => y.size ≤ sizeLine ∧ k = ((y.size : Int) != 0)
  | .ref p => (∃ xs, SqL K H p xs ∧ k = !xs.isEmpty) ∨ (∃ xs, SqT K H p xs ∧ k = !xs.isEmpty) ∨ ∃ kvs, H p = some (.dK kvs) ∧ k = !kvs.isEmpty
  | _ => False
theorem zir {κ : Type} {kvs : List (κ × V)} {vs : List (κ × Value)} (r : KV kvs vs) : (!vs.isEmpty) = !kvs.isEmpty := by
  cases r <;> rfl
theorem zeM {xs : List V} {its : List Value} (r : Vals xs its) : (!its.toArray.isEmpty) = !xs.isEmpty := by
  cases r <;> simp
theorem zhM : (sizeLine : Nat) < 2 ^ 63 := by rw [sizeLine_eq]; decide
theorem zoY : zvs X (fun x H Q => ∃ k, zsJ X.K x H k ∧ Q k H) := by
  intro pins s σ H x v Q I rx h
  obtain ⟨k, e, q⟩ := h
  have hl := zhM
  have hs : sizeLine = 16777216 := sizeLine_eq
  cases x with
  | non =>
    cases rx
    have e' : k = false := e
    subst e'
    exact truthy_none ⟨H, I, q⟩
  | bl b =>
    cases rx
    have e' : k = b := e
    subst e'
    exact wpAny_truthy_bool ⟨H, I, q⟩
  | int i =>
    obtain ⟨t, rfl⟩ := rx
    have e' : k = (i != 0) := e
    subst e'
    exact PySem.P.truthy_int ⟨H, I, q⟩
  | str y =>
    obtain ⟨t, rfl⟩ := rx
    obtain ⟨hy, e'⟩ : y.length ≤ sizeLine ∧ k = ((y.length : Int) != 0) := e
    subst e'
    exact PySem.P.truthy_str (by omega) ⟨H, I.tok _, q⟩
  | byt y =>
    obtain ⟨t, rfl⟩ := rx
    obtain ⟨hy, e'⟩ : y.size ≤ sizeLine ∧ k = ((y.size : Int) != 0) := e
    subst e'
    exact PySem.W.truthy_bytes (by omega) ⟨H, I.tok _, q⟩
  | ref p =>
    cases rx
    have e' : (∃ xs, SqL X.K H p xs ∧ k = !xs.isEmpty) ∨ (∃ xs, SqT X.K H p xs ∧ k = !xs.isEmpty) ∨ ∃ kvs, H p = some (.dK kvs) ∧ k = !kvs.isEmpty := e
    rcases e' with ⟨xs, hx, e'⟩ | ⟨xs, hx, e'⟩ | ⟨kvs, hx, e'⟩
    · subst e'
      obtain ⟨its, r, pl, hz⟩ := I.list hx
      have hlen := r.length
      exact wpAny_truthy_list pl.isList (by simp only [List.size_toArray]; omega) ⟨H, I.tok _, by rw [zeM r]; exact q⟩
    · subst e'
      obtain ⟨its, r, pl, hz⟩ := I.tuple hx
      have hlen := r.length
      exact truthy_tuple pl (by simp only [List.size_toArray]; omega) ⟨H, I.tok _, by rw [zeM r]; exact q⟩
    · subst e'
      obtain ⟨hz, hS, vs, r, m⟩ : kvs.length ≤ sizeLine ∧ (p == sysModules) = false ∧ ∃ vs, KV kvs vs ∧ s.heap.DictOf (zbH X.prog X.w) p vs := I.hok p _ hx
      have hlen : kvs.length = vs.length := Paired.length r
      exact wpAny_truthy_dict hS m (by omega) ⟨H, I.tok _, by rw [zir r]; exact q⟩
  | _ => exact (show False from e).elim
theorem zkY (ha : PE X a ta) (he : ∀ whole, isTrue a X.env whole = (do let v ← whole; standAt a.pos; holding [v] (truthy v))) :
    PT X a (fun σ H Q => ta σ H fun x H' => ∃ k, zsJ X.K x H' k ∧ Q k H') := by
  intro pins s σ H Q I h
  exact isTrue_plain (thn (ha pins s σ H _ I h) fun v s1 ⟨x, H1, I1, r1, q1⟩ => zoY pins s1 σ H1 x v Q I1 r1 q1) (he _)
theorem zkZ {x : V} {us : List Value} (r : Vals [x] us) : ∃ u, us = [u] ∧ RelV x u := by
  cases r with
  | cons r1 r2 => cases r2; exact ⟨_, rfl, r1⟩
theorem zsK {x y : V} {us : List Value} (r : Vals [x, y] us) : ∃ u w', us = [u, w'] ∧ RelV x u ∧ RelV y w' := by
  cases r with
  | cons r1 r2 =>
    cases r2 with
    | cons r3 r4 => cases r4; exact ⟨_, _, rfl, r1, r3⟩
end
end L2
namespace L2
open PySem PySem.Spec PyProof.Rows
structure ObjM (h : Heap) (x dx C : Addr) (mA : Str → Option Value) : Prop where
  obj : h.get? x = some (PySem.W.instObj C dx)
  ns : h.Ns1 dx mA
  ne : dx ≠ x
theorem zjx {h : Heap} {dx : Addr} {mA : Str → Option Value} (n : h.Ns1 dx mA) : ∃ od, h.get? dx = some od ∧ ∀ name, PySem.W.lookIn name od = some (mA name) := by
  obtain ⟨o, es, ep, ho, hd, hk, _, hm⟩ := n
  refine ⟨o, ho, fun name => ?_⟩
  have e := hm name
  unfold nsFind findBy at e
  rw [← Array.find?_toList] at e
  unfold PySem.W.lookIn
  rw [hd]
  dsimp only
  split
  · rename_i y q
    rw [q] at e
    exact congrArg some e
  · rename_i q
    rw [q] at e
    have a : es.toList.any (·.refKey) = false := by
      rw [List.any_eq_false]
      intro y hy
      obtain ⟨z, t, hkey⟩ := hk y (Array.mem_toList_iff.mp hy)
      simp [DictEntry.refKey, hkey]
    have a' : ¬ es.toList.any (·.refKey) = true := by rw [a]; exact Bool.false_ne_true
    rw [if_neg a']
    exact congrArg some e
theorem ObjM.look {h : Heap} {x dx C : Addr} {mA : Str → Option Value} (I : ObjM h x dx C mA) : ∃ od, PySem.W.InstAt h x (PySem.W.instObj C dx) C (some od) ∧ ∀ name, PySem.W.lookIn name od = some (mA name) :=
  let ⟨od, ho, hl⟩ := zjx I.ns
  ⟨od, ⟨I.obj, rfl, rfl, ho⟩, hl⟩
theorem RelO.some_of {v : V} {o : Option Value} (r : RelO (some v) o) : ∃ u, o = some u ∧ RelV v u := by
  cases o with
  | none => exact (show False from r).elim
  | some u => exact ⟨u, rfl, r⟩
structure Cls (K : PySem.W.Frag) (C : Addr) : Prop where
  pg : PySem.W.plainGet K C Str.empty = true
  hd : PySem.W.hasDictIn K C = true
  po : PySem.W.plainOver K C = true
  sa : PySem.W.findIn K (.ref C) "__setattr__" = some (some (.builtin "object.__setattr__"))
theorem Cls.get {K : PySem.W.Frag} {C : Addr} (c : Cls K C) (f : Str) : PySem.W.plainGet K C f = true := c.pg
end L2
namespace L2
open PySem PySem.Spec PyProof.Rows
structure Room (k : Nat) (A : Around) : Prop where
  hd : A.handled = none
  dp : A.depth + 3 * k + 5 < recursionLimit
  un : A.units + 16 * k + 200 < cLine
theorem Room.mono {j k : Nat} {A : Around} (r : Room k A) (h : j ≤ k) : Room j A := ⟨r.hd, by have := r.dp; omega, by have := r.un; omega⟩
theorem Room.deeper {k : Nat} {A : Around} (r : Room (k + 1) A) (env : Env) : Room k (A.deeper env) :=
  ⟨r.hd, by have := r.dp; show A.depth + 1 + 3 * k + 5 < _; omega, by have := r.un; show A.units + 3 + 16 * k + 200 < _; omega⟩
theorem Room.in1 {k : Nat} {A : Around} (r : Room (k + 1) A) : Room k A.in1 :=
  ⟨r.hd, by have := r.dp; show A.depth + 3 * k + 5 < _; omega, by have := r.un; show A.units + 1 + 16 * k + 200 < _; omega⟩
theorem Room.depth {k : Nat} {A : Around} (r : Room k A) : A.depth < recursionLimit := by have := r.dp; omega
theorem Room.units {k : Nat} {A : Around} (r : Room k A) : A.units + 64 < cLine := by have := r.un; omega
noncomputable def zvu : TA := fun _ H Q => Q [] H
noncomputable def zsL (ta : TE) (tr : TA) : TA := fun σ H Q => ta σ H fun x H1 => tr σ H1 fun xs H2 => Q (x :: xs) H2
section
variable {X : Cx} {e : Expr} {es : List Expr} {te : TE} {t : TA} {pos : Pos}
theorem zf8 : PA X [] zvu := fun _ _ _ _ H Q I h => Calls.spliced_nil ⟨[], H, I, .nil, h⟩
theorem zcg (ha : PE X e te) (hr : PA X es t) (hs : starEach (e :: es) X.env = (false, eval e X.env) :: starEach es X.env := by rfl) : PA X (e :: es) (zsL te t) := by
  intro pos pins s σ H Q I h
  rw [hs]
  show wpAny _ _ (spliced ((false, eval e X.env) :: backTo pos (starEach es X.env))) _ _ s
  refine Calls.spliced_cons (thn (ha pins s σ H _ I h) fun u s1 ⟨x, H1, I1, r1, q1⟩ => ?_)
  exact thn (hr pos pins s1 σ H1 _ I1 q1) fun us s2 ⟨xs, H2, I2, r2, q2⟩ => ⟨x :: xs, H2, I2, .cons r1 r2, q2⟩
noncomputable def zvv (t : TA) : TE := fun σ H Q => t σ H fun xs H1 => xs.length ≤ sizeLine ∧ ∀ p, H1 p = none → Q (.ref p) (upd H1 p (.tup xs))
noncomputable def zvw (t : TA) : TE := fun σ H Q => t σ H fun xs H1 => xs.length ≤ sizeLine ∧ ∀ p, H1 p = none → Q (.ref p) (upd H1 p (.lst xs))
theorem zoZ {x1} (h : PA X es t) : PE X (.Tuple es x1 pos) (zvv t) := by
  intro pins s σ H Q I hq
  refine wpAny_Tuple_spliced (thn (h pos pins s σ H _ I hq) fun us s1 ⟨xs, H1, I1, r, z, q⟩ => ⟨by rw [← r.length]; exact z, ?_⟩)
  have hf : H1 s1.heap.objs.size = none := I1.hok.fresh (Nat.le_refl _)
  refine ⟨.ref s1.heap.objs.size, upd H1 s1.heap.objs.size (.tup xs), I1.laid (t' := s1.toks) (fun b u e => Heap.get?_push_of_some _ e) (Nat.le_refl _) ?_, rfl, q _ hf⟩
  exact ⟨z, us, r, ⟨_, Heap.get?_push_size _ rfl, rfl, _, rfl⟩⟩
theorem zmy (h : PA X es t) : PE X (.List es pos) (zvw t) := by
  intro pins s σ H Q I hq
  refine wpAny_List_spliced (thn (h pos pins s σ H _ I hq) fun us s1 ⟨xs, H1, I1, r, z, q⟩ => ⟨by rw [← r.length]; exact z, ?_⟩)
  have hf : H1 s1.heap.objs.size = none := I1.hok.fresh (Nat.le_refl _)
  refine ⟨.ref s1.heap.objs.size, upd H1 s1.heap.objs.size (.lst xs), I1.laid (t' := s1.toks) (fun b u e => Heap.get?_push_of_some _ e) (Nat.le_refl _) ?_, rfl, q _ hf⟩
  exact ⟨z, us, 0, r, Heap.get?_push_size _ rfl⟩
end
noncomputable abbrev Sp := List V → Hp → VK → XK → Prop
noncomputable abbrev CXT := List Env → Hp → Shared → XK → Value → Shared → Prop
structure Env0 (P : Program) (w : World) (K : PySem.W.Frag) (mg : Str → Option Value) (base : Heap) (A : Around) (outer : List Env) (s : Shared) (H : Hp) : Prop where
  frames : A.frames = some outer
  mod : Mod K mg base
  bs : ∀ b o, base.get? b = some o → s.heap.get? b = some o ∧ H b = none
  bsz : base.objs.size ≤ s.heap.objs.size
  funs : s.heap.FunFrames base outer
  frf : ∀ b ∈ frs outer, H b = none
  hok : HOk P w H s.heap
  bare : AllBare s.gens
noncomputable def CE (outer : List Env) (P : Program) (w : World) (H : Hp) (s : Shared) (Q : VK) (u : Value) (s' : Shared) : Prop :=
  ∃ v H', s'.os = s.os ∧ AllBare s'.gens ∧ Un (frs outer) [] H H' s.heap s'.heap ∧ HOk P w H' s'.heap ∧ RelV v u ∧ Q v H'
noncomputable def CR (CX : CXT) (outer : List Env) (P : Program) (w : World) (H : Hp) (s : Shared) (Q : VK) (E : XK) (r : Result) (s' : Shared) : Prop :=
  match r with
  | .ok (.ret u) => CE outer P w H s Q u s'
  | .ok _ => False
  | .error e => CX outer H s E e s'
structure FnOk (P : Program) (w : World) (K : PySem.W.Frag) (mg : Str → Option Value) (base : Heap) (CX : CXT) (k : Nat) (f : Addr) (fd : FuncData) (ps : List Str) (sp : Sp) : Prop where
  len : ∀ vs H Q E, sp vs H Q E → vs.length = ps.length
  run : ∀ (A : Around) (outer : List Env) (s : Shared) (H : Hp) (args : Args) (us : List Value) (vs : List V) (Q : VK) (E : XK), Room k A → Env0 P w K mg base A outer s H → BindsTo s fd args (ps.zip us) → Vals vs us → sp vs H Q E →
    codeAny (model P w) A (.call (.ref f) args) (CR CX outer P w H s Q E) s
theorem FnOk.mono {P : Program} {w : World} {K : PySem.W.Frag} {mg : Str → Option Value} {base : Heap} {CX : CXT} {j k : Nat} {f : Addr} {fd : FuncData} {ps : List Str} {sp : Sp} (F : FnOk P w K mg base CX j f fd ps sp) (h : j ≤ k) :
    FnOk P w K mg base CX k f fd ps sp := ⟨F.len, fun A outer s H args us vs Q E hr => F.run A outer s H args us vs Q E (hr.mono h)⟩
theorem FnOk.imp {P : Program} {w : World} {K : PySem.W.Frag} {mg : Str → Option Value} {base : Heap} {CX : CXT} {k : Nat} {f : Addr} {fd : FuncData} {ps : List Str} {sp sp' : Sp} (F : FnOk P w K mg base CX k f fd ps sp)
    (h : ∀ vs H Q E, sp' vs H Q E → sp vs H Q E) : FnOk P w K mg base CX k f fd ps sp' :=
  ⟨fun vs H Q E q => F.len vs H Q E (h _ _ _ _ q), fun A outer s H args us vs Q E hr he hb hv hs => F.run A outer s H args us vs Q E hr he hb hv (h _ _ _ _ hs)⟩
theorem Env0.in1 {P : Program} {w : World} {K : PySem.W.Frag} {mg : Str → Option Value} {base : Heap} {A : Around} {outer : List Env} {s : Shared} {H : Hp} (e : Env0 P w K mg base A outer s H) :
    Env0 P w K mg base A.in1 outer s H := ⟨e.frames, e.mod, e.bs, e.bsz, e.funs, e.frf, e.hok, e.bare⟩
section
variable {X : Cx} {pins : List (Addr × Obj)} {σ : St} {H : Hp} {s s' : Shared}
theorem Inv.env0 (I : Inv X pins σ H s) : Env0 X.prog X.w X.K X.mg X.base X.A X.stack s H :=
  ⟨I.ok.frames, I.ok.mod, I.bs, Nat.le_trans I.ok.bsz I.sz, I.stack, I.stkFree, I.hok, I.bare⟩
theorem Inv.after {Q : VK} {u : Value} (I : Inv X pins σ H s) (h : CE X.stack X.prog X.w H s Q u s') : EP X pins σ Q u s' := by
  obtain ⟨v, H', os, bare, un, hok, r, q⟩ := h
  obtain ⟨hh, g, d, t, os'⟩ := s'
  obtain rfl : os' = s.os := os
  exact ⟨v, H', I.call (h' := hh) (g' := g) (d' := d) (t' := t) (ch := []) un hok bare (fun b z => absurd z (by simp)), r, q⟩
end
noncomputable def zsM (sp : Sp) (dvs : List V) (E : XK) (t : TA) : TE := fun σ H Q => t σ H fun vs H1 => sp (vs ++ dvs) H1 Q E
noncomputable def Binds (K : PySem.W.Frag) (fd : FuncData) (ps : List Str) (ds : List Value) : Prop :=
  ∀ (s : Shared) (us : List Value), K.In s.heap → (us ++ ds).length = ps.length → BindsTo s fd ⟨us, []⟩ (ps.zip (us ++ ds))
theorem Binds.all {K : PySem.W.Frag} {fd : FuncData} {ps : List Str} (h : ∀ us : List Value, us.length = ps.length → bindArgs fd ⟨us, []⟩ = pure (ps.zip us)) : Binds K fd ps [] := fun s us _ hl => by
  rw [List.append_nil] at hl ⊢
  exact .of_eq (h us hl)
noncomputable def zd5 (CX : CXT) (X : Cx) (E : XK) : Prop := ∀ (pins : List (Addr × Obj)) (σ : St) (H : Hp) (s : Shared) (e : Value) (s' : Shared), Inv X pins σ H s → CX X.stack H s E e s' → X.xe e s'
section
variable {X : Cx} {CX : CXT} {k : Nat} {f C : Addr} {fd : FuncData} {ps : List Str} {sp : Sp} {dvs : List V} {ds : List Value} {E : XK} {x m : Str} {p pos apos : Pos} {e o : Expr} {es : List Expr} {ta : TE} {t : TA}
theorem zo0 {pins : List (Addr × Obj)} {σ : St} {H : Hp} {s : Shared} {Q : VK} {us : List Value} {vs : List V} (F : FnOk X.prog X.w X.K X.mg X.base CX k f fd ps sp) (hr : Room k X.A) (hb : Binds X.K fd ps ds) (hd : Vals dvs ds) (hx : zd5 CX X E)
    (I : Inv X pins σ H s) (r : Vals vs us) (h : sp (vs ++ dvs) H Q E) : wpAny (model X.prog X.w) X.A (call (.ref f) us) (EP X pins σ Q) X.xe s := by
  have r2 : Vals (vs ++ dvs) (us ++ ds) := r.append hd
  have hl : (us ++ ds).length = ps.length := by rw [← r2.length]; exact F.len _ _ _ _ h
  refine wpAny_call (codeAny_mono (F.run X.A X.stack s H ⟨us, []⟩ (us ++ ds) (vs ++ dvs) Q E hr I.env0 (hb s us I.kIn hl) r2 h) fun r s' hq => ?_)
  cases r with
  | error e => exact hx pins σ H s e s' I hq
  | ok fl =>
    cases fl with
    | ret u => exact I.after hq
    | next => exact False.elim hq
    | brk => exact False.elim hq
    | cont => exact False.elim hq
theorem zjy (F : FnOk X.prog X.w X.K X.mg X.base CX k f fd ps sp) (hr : Room k X.A) (hg : Gl X x) (hm : X.mg x = some (.ref f)) (hk : PySem.W.keepIn X.K (.ref f) = true) (hb : Binds X.K fd ps ds) (hd : Vals dvs ds) (hx : zd5 CX X E)
    (ha : PA X (e :: es) t) (hdb : (x == ("__debug__" : Str)) = false := by decide) (he : starEach (e :: es) X.env = (false, eval e X.env) :: starEach es X.env := by rfl) (hpl : (backTo pos (starEach es X.env)).any (·.1) = false := by rfl) :
    PE X (.Call (.Name x p) (e :: es) [] pos) (zsM sp dvs E t) := by
  intro pins s σ H Q I h
  refine wpAny_Call_Name_kw (zd4 I hg hm ?_ hdb)
  refine PySem.W.callWith_K (h₀ := X.base) I.ok.mod.kin hk (thn (ha pos pins s σ H _ I h) fun us s1 ⟨vs, H1, I1, r, q⟩ => ⟨I1.kIn, ?_⟩) he hpl
  exact zo0 F hr hb hd hx I1 r q
end
structure FnScope (N P : List Str) (sc : Scope) : Prop where
  kind : sc.kind = .function
  co : sc.isCoroutine = false
  gen : sc.isGenerator = false
  nd : N.Nodup
  pre : N.take P.length = P
  par : ∀ x ∈ P, sc.names.lookup x = some .local ∨ sc.names.lookup x = some .cell
  nofree : ∀ y ∈ sc.names, y.2 ≠ .free
theorem zf9 {kindOf : Str → Option NameKind} {x : Str} : ∀ {binds : List (Str × Value)} {m : Str → Option Value}, (∀ v, (x, v) ∉ binds) → bindL kindOf binds m x = m x
  | [], _, _ => rfl
  | (n, v) :: r, m, h => by
    unfold bindL
    rw [zf9 fun w hw => h w (List.mem_cons_of_mem _ hw)]
    split
    · have : x ≠ n := by rintro rfl; exact h v List.mem_cons_self
      simp [this]
    · rfl
theorem zga {kindOf : Str → Option NameKind} {x : Str} : ∀ {binds : List (Str × Value)} {m : Str → Option Value}, (∀ v, (x, v) ∉ binds) → bindC kindOf binds m x = m x
  | [], _, _ => rfl
  | (n, v) :: r, m, h => by
    unfold bindC
    rw [zga fun w hw => h w (List.mem_cons_of_mem _ hw)]
    split
    · rfl
    · have : x ≠ n := by rintro rfl; exact h v List.mem_cons_self
      simp [this]
theorem zgb {kindOf : Str → Option NameKind} {x : Str} {v : Value} : ∀ {P : List Str} {vs : List Value} {i : Nat} {m : Str → Option Value}, P.Nodup → P[i]? = some x → vs[i]? = some v → kindOf x = some .local →
    bindL kindOf (P.zip vs) m x = some v
  | [], _, _, _, _, h, _, _ => by simp at h
  | _ :: _, [], _, _, _, _, h, _ => by simp at h
  | p :: P, w :: vs, 0, m, nd, h1, h2, hk => by
    simp at h1 h2; subst h1; subst h2
    show bindL kindOf ((p, w) :: P.zip vs) m p = _
    unfold bindL
    rw [zf9 fun v hv => (List.nodup_cons.mp nd).1 (List.of_mem_zip hv).1, if_pos hk]
    simp
  | p :: P, w :: vs, i + 1, m, nd, h1, h2, hk => by
    show bindL kindOf ((p, w) :: P.zip vs) m x = _
    unfold bindL
    exact zgb (i := i) (List.nodup_cons.mp nd).2 (by simpa using h1) (by simpa using h2) hk
theorem zgc {kindOf : Str → Option NameKind} {x : Str} {v : Value} : ∀ {P : List Str} {vs : List Value} {i : Nat} {m : Str → Option Value}, P.Nodup → P[i]? = some x → vs[i]? = some v → kindOf x ≠ some .local →
    bindC kindOf (P.zip vs) m x = some v
  | [], _, _, _, _, h, _, _ => by simp at h
  | _ :: _, [], _, _, _, _, h, _ => by simp at h
  | p :: P, w :: vs, 0, m, nd, h1, h2, hk => by
    simp at h1 h2; subst h1; subst h2
    show bindC kindOf ((p, w) :: P.zip vs) m p = _
    unfold bindC
    rw [zga fun v hv => (List.nodup_cons.mp nd).1 (List.of_mem_zip hv).1, if_neg hk]
    simp
  | p :: P, w :: vs, i + 1, m, nd, h1, h2, hk => by
    show bindC kindOf ((p, w) :: P.zip vs) m x = _
    unfold bindC
    exact zgc (i := i) (List.nodup_cons.mp nd).2 (by simpa using h1) (by simpa using h2) hk
noncomputable def zch (N : List Str) (vs : List V) : St := vs.map some ++ List.replicate (N.length - vs.length) none
noncomputable def zbM (CX : CXT) (P : Program) (w : World) (K : PySem.W.Frag) (mg : Str → Option Value) (base : Heap) (N : List Str) (qual : Str) (scope : Scope) (f : Addr) (cd : Value) (A : Around) (outer : List Env) (s : Shared) (H : Hp) (E : XK) : Cx where
  prog := P
  w := w
  K := K
  mg := mg
  base := base
  A := A.deeper (envOfC qual scope s.heap.objs.size f cd)
  N := N
  s₀ := s
  H₀ := H
  env := envOfC qual scope s.heap.objs.size f cd
  outer := outer
  stack := envOfC qual scope s.heap.objs.size f cd :: outer
  ex := []
  calm := true
  fn := fun _ => true
  pn := []
  xe := fun e s' => wpAny (model P w) (A.deeper (envOfC qual scope s.heap.objs.size f cd)) (leaving (envOfC qual scope s.heap.objs.size f cd) e) (fun _ s'' => CX outer H s E e s'') (fun e' s'' => CX outer H s E e' s'') s'
theorem zhN {sc : Scope} {n : Nat} {x : Str} (h : sc.names.lookup x = some .cell) : ∃ c, (cellsFrom n sc.names []).lookup x = some c := by
  have q := PySem.W.cellsFrom_some sc.names n [] (.inl h)
  exact Option.isSome_iff_exists.mp q
theorem zjz {CX : CXT} {P : Program} {w : World} {K : PySem.W.Frag} {mg : Str → Option Value} {base : Heap} {N ps : List Str} {qual : Str} {scope : Scope} {f : Addr} {cd : Value} {A : Around} {outer : List Env} {s s1 : Shared} {H : Hp} {E : XK} {us : List Value} {vs : List V}
    (S : FnScope N ps scope) (hd : A.handled = none) (e0 : Env0 P w K mg base A outer s H) (hl : vs.length = ps.length) (r : Vals vs us)
    (x : InCallC s s.heap.objs.size (bindL (envOfC qual scope s.heap.objs.size f cd).kindOf (ps.zip us) fun _ => none) (cellsFrom (s.heap.objs.size + 1) scope.names []) (bindC (envOfC qual scope s.heap.objs.size f cd).kindOf (ps.zip us) fun _ => none) s1) :
    Inv (zbM CX P w K mg base N qual scope f cd A outer s H E) [] (zch N vs) H s1 := by
  have hpl : ps.length ≤ N.length := by have := congrArg List.length S.pre; rw [List.length_take] at this; omega
  obtain ⟨h1, tk, rfl, hk⟩ := x.done
  have noA : ∀ b : Addr, b ∉ (zbM CX P w K mg base N qual scope f cd A outer s H E).ex := fun b z => absurd (show b ∈ ([] : List Addr) from z) (by simp)
  refine ⟨⟨e0.mod, S.kind, rfl, rfl, Nat.le_refl _, fun y z c h1 h2 => ?_, fun y hy => ?_, fun y c _ h => ?_, fun _ => hd, Around.frames_deeper e0.frames, .inr ⟨rfl, rfl⟩, fun b z => absurd z (noA b), e0.bs, e0.bsz, fun b _ _ => noA b, fun b z => absurd z (noA b), e0.funs, e0.frf⟩,
    rfl, e0.bare, Un.kept hk, ⟨_, x.toInCall.ns, fun i y v h1 h2 h3 => ?_⟩, fun y c h => ⟨_, x.cell y c h⟩, e0.hok.fresh (Nat.le_refl _), fun y c h => ?_, fun p hp => absurd (show p ∈ ([] : List (Addr × Obj)) from hp) (by simp), e0.hok.kept hk, ?_⟩
  · exact name_of_addr x.apart (PySem.mem_of_lookup h1) (PySem.mem_of_lookup h2)
  · have hy : scope.names.lookup y = some .cell ∨ scope.names.lookup y = some .free := hy
    rcases hy with hy | hy
    · exact zhN hy
    · exact absurd rfl (S.nofree _ (PySem.mem_of_lookup hy))
  · exact Nat.le_of_lt (x.above y c (PySem.mem_of_lookup h))
  · have hi : i < vs.length := by
      unfold zch at h2
      by_cases hi : i < vs.length
      · exact hi
      · rw [List.getElem?_append_right (by simpa using hi)] at h2
        rw [List.getElem?_replicate] at h2
        split at h2 <;> cases h2
    have ha : vs[i]? = some v := by
      unfold zch at h2
      rw [List.getElem?_append_left (by simpa using hi), List.getElem?_map] at h2
      cases e : vs[i]? with
      | none => rw [e] at h2; cases h2
      | some a => rw [e] at h2; cases h2; rfl
    obtain ⟨u, hu, rv⟩ := r.get ha
    have hp : ps[i]? = some y := by
      rw [← S.pre, List.getElem?_take_of_lt (by omega)]; exact h1
    have ndP : ps.Nodup := by rw [← S.pre]; exact S.nd.sublist (List.take_sublist _ _)
    refine ⟨u, rv, ?_⟩
    rcases S.par y (List.mem_of_getElem? hp) with k | k
    · exact .inl ⟨k, zgb ndP hp hu k⟩
    · obtain ⟨c, e⟩ := zhN (n := s.heap.objs.size + 1) k
      refine .inr ⟨.inl k, c, e, ?_⟩
      have q := x.cell y c e
      rw [zgc ndP hp hu (by show scope.names.lookup y ≠ _; rw [k]; decide)] at q
      exact q
  · exact e0.hok.fresh (Nat.le_of_lt (x.above y c (PySem.mem_of_lookup h)))
  · unfold zch
    show _ = N.length
    rw [List.length_append, List.length_map, List.length_replicate]
    omega
theorem zo1 {CX : CXT} {P : Program} {w : World} {K : PySem.W.Frag} {mg : Str → Option Value} {base : Heap} {k : Nat} {f : Addr} {name qual : Str} {params : Arguments} {body : List Stmt} {scope : Scope} {dV kV doc pm cdv ct oc : Value} {an od : Option Addr}
    {osl : Array (Option Value)} {N ps : List Str} {sp : Sp} (lk : K.lookup f = some ⟨oc, od, .func (PySem.W.fnOf name qual params body scope dV kV doc pm an cdv ct), osl⟩) (hcd : PySem.W.codeIn K cdv qual = true) (S : FnScope N ps scope)
    (len : ∀ vs H Q E, sp vs H Q E → vs.length = ps.length)
    (hbody : ∀ (A : Around) (outer : List Env) (s : Shared) (H : Hp) (vs : List V) (Q : VK) (E : XK), Room k (A.deeper (envOfC qual scope s.heap.objs.size f cdv)) → sp vs H Q E →
      ∃ t, PSs (zbM CX P w K mg base N qual scope f cdv A outer s H E) body t ∧ t { nx := fun _ H' => Q .non H', rt := Q } (zch N vs) H) :
    FnOk P w K mg base CX (k + 1) f (PySem.W.fnOf name qual params body scope dV kV doc pm an cdv ct) ps sp := by
  refine ⟨len, fun A outer s H args us vs Q E hr e0 hb r hsp => ?_⟩
  have hl := len _ _ _ _ hsp
  have KX : K.In s.heap := e0.mod.kin.keeps fun b o e => (e0.bs b o e).1
  have lim : s.heap.NoLimit := e0.mod.nolimit.keeps fun b o e => (e0.bs b o e).1
  have hkind : ∀ y ∈ ps.zip us, scope.names.lookup y.1 = some .local ∨ (scope.names.lookup y.1 = some .cell ∧ ((cellsFrom (s.heap.objs.size + 1) scope.names []).lookup y.1).isSome = true) := fun ⟨n, v⟩ hy => by
    rcases S.par n (List.of_mem_zip hy).1 with q | q
    · exact .inl q
    · exact .inr ⟨q, PySem.W.cellsFrom_some _ _ _ (.inl q)⟩
  refine codeAny_call_function hr.depth (KX _ _ lk) rfl S.co S.gen rfl (PySem.W.codeRec_of KX hcd) (hb _ _ _ _ ?_)
  refine wpAny_newFunctionEnv_cells S.kind hkind fun env he s1 x => ?_
  subst he
  refine ⟨lim.keeps x.toInCall.keep, codeAny_func ?_⟩
  obtain ⟨t, ht, hq⟩ := hbody A outer s H vs Q E (hr.deeper _) hsp
  have I : Inv (zbM CX P w K mg base N qual scope f cdv A outer s H E) [] (zch N vs) H s1 := zjz S hr.hd e0 hl r x
  refine wpAny_mono (ht [] s1 (zch N vs) H _ I hq) (fun fl s' hs => ?_) fun e s' hs => hs
  have fin : ∀ {σ' : St} {H' : Hp} {v : V} {u : Value}, Inv (zbM CX P w K mg base N qual scope f cdv A outer s H E) [] σ' H' s' → RelV v u → Q v H' → CE outer P w H s Q u s' :=
    fun {σ' H' v u} J rv q => ⟨v, H', J.os, J.bare, J.base, J.hok, rv, q⟩
  cases fl with
  | ret u =>
    obtain ⟨v, σ', H', J, rv, q⟩ := hs
    exact fin J rv q
  | next =>
    obtain ⟨σ', H', J, q⟩ := hs
    exact fin (v := V.non) (u := Value.none) J rfl q
  | brk =>
    obtain ⟨_, _, _, q⟩ := hs
    exact False.elim q
  | cont =>
    obtain ⟨_, _, _, q⟩ := hs
    exact False.elim q
end L2
namespace L2
open PySem PySem.Spec PyProof.Rows
section
variable {X : Cx} {x : Str} {p pos : Pos} {e : Expr} {es : List Expr} {t : TA} {id T : String} {r : List V → Hp → VK → Prop}
noncomputable def tCB (r : List V → Hp → VK → Prop) (t : TA) : TE := fun σ H Q => t σ H fun vs H1 => r vs H1 Q
theorem zfa (hc : CallR X (.builtin id) r) (hg : Gl X x) (hm : X.mg x = none) (hv : bootBuiltins x = some (.builtin id)) (ha : PA X (e :: es) t) (hn : x ≠ "__name__" := by decide) (hdb : (x == ("__debug__" : Str)) = false := by decide)
    (he : starEach (e :: es) X.env = (false, eval e X.env) :: starEach es X.env := by rfl) (hpl : (backTo pos (starEach es X.env)).any (·.1) = false := by rfl) : PE X (.Call (.Name x p) (e :: es) [] pos) (tCB r t) := by
  intro pins s σ H Q I h
  refine wpAny_Call_Name_kw (zf6 I hg hm hv ?_ hn hdb)
  exact PyProof.Rows.callWith_builtin1 (thn (ha pos pins s σ H _ I h) fun us s1 ⟨vs, H1, I1, r1, q1⟩ => hc pins s1 σ H1 vs us Q I1 r1 q1) he hpl
theorem zjA (hc : CallR X (.type T) r) (hg : Gl X x) (hm : X.mg x = none) (hv : bootBuiltins x = some (.type T)) (ha : PA X (e :: es) t) (hn : x ≠ "__name__" := by decide) (hdb : (x == ("__debug__" : Str)) = false := by decide)
    (he : starEach (e :: es) X.env = (false, eval e X.env) :: starEach es X.env := by rfl) (hpl : (backTo pos (starEach es X.env)).any (·.1) = false := by rfl) : PE X (.Call (.Name x p) (e :: es) [] pos) (tCB r t) := by
  intro pins s σ H Q I h
  refine wpAny_Call_Name_kw (zf6 I hg hm hv ?_ hn hdb)
  exact PyProof.Rows.callWith_type1 (thn (ha pos pins s σ H _ I h) fun us s1 ⟨vs, H1, I1, r1, q1⟩ => hc pins s1 σ H1 vs us Q I1 r1 q1) he hpl
end
end L2
namespace HT
open PySem PyProof.Rows
noncomputable def lexLt : List Int → List Int → Bool
  | [], [] => false
  | [], _ :: _ => true
  | _ :: _, [] => false
  | x :: xs, y :: ys => if x = y then lexLt xs ys else decide (x < y)
theorem lexLt_cons (x y : Int) (xs ys : List Int) : lexLt (x :: xs) (y :: ys) = if x = y then lexLt xs ys else decide (x < y) := rfl
theorem zfb : lexLt [] [] = false := rfl
theorem zey (y : Int) (ys : List Int) : lexLt [] (y :: ys) = true := rfl
theorem zez (x : Int) (xs : List Int) : lexLt (x :: xs) [] = false := rfl
theorem zk0 (A : Around) (s : Shared) (a : Int) (t : Tok) (c : Int) (u : Tok) : ∃ e, SeqAt.EqAt A s (.int a t) (.int c u) e ∧ (e = true ↔ a = c) :=
  ⟨(a == c), SeqAt.EqAt.int_int a t c u, by simp⟩
theorem zk1 (A : Around) (s : Shared) (a : Int) (t : Tok) (c : Int) (u : Tok) (prog : Program) (w : World) (E : Value → Shared → Prop) (Q : Value → Shared → Prop) (h : Q (.bool (decide (a < c))) s) :
    wpAny (model prog w) A (richCompare .Lt (.int a t) (.int c u)) Q E s :=
  (PyProof.Rows.lt_int h : wpAny (model prog w) A (compareOp .Lt (.int a t) (.int c u)) Q E s)
section
open PySem.SeqAt
open PySem.AutoSeq1 (wpAny_loadPart')
open PySem.MeetsSeq PySem.MeetsSeq2 PySem.MeetsSeq3
theorem zfc (l b : Addr) (items items2 : Array Value) (n n2 : Nat) (dd dd2 : Option Addr) (sl sl2 : Array (Option Value)) (ns ms : List Int) (hi : IntsAre items.toList ns) (hj : IntsAre items2.toList ms) :
    Meets (Builtin.«tuple.__lt__» ⟨[.ref l, .ref b], []⟩)
      (fun _ R s => s.heap.get? l = some { cls := .type "tuple", dict := dd, data := .seq items n, slots := sl } ∧ s.heap.get? b = some { cls := .type "tuple", dict := dd2, data := .seq items2 n2, slots := sl2 } ∧
        R (.ok (.ret (.bool (lexLt ns ms)))) s) :=
  .of_wp fun prog w A R s h => by
    obtain ⟨hp, g, d, tk, os⟩ := s; obtain ⟨hl, hb, h⟩ := h
    have f2 := AutoSeq1.sub_tuple_tuple
    have z1 : items.size = ns.length := by rw [← hi.length]; simp
    have z2 : items2.size = ms.length := by rw [← hj.length]; simp
    wp_walk using wpAny_loadPart' hl, wpAny_loadPart' hb, wpAny_forIn_list _ (fun zdD b s' => b.1 = none ∧ s' = ⟨hp, g, d, tk, os⟩ ∧ ∃ (vs ws : List Value) (ns' ms' : List Int), zdD = vs.zip ws ∧
      IntsAre vs ns' ∧ IntsAre ws ms' ∧ ns'.length + items2.size = ms'.length + items.size ∧ R (.ok (.ret (.bool (lexLt ns' ms')))) ⟨hp, g, d, tk, os⟩) _
    case turn =>
      rintro ⟨y, x⟩ zdD b s' ⟨hb', rfl, vs, ws, ns', ms', hz, hvi, hwi, hlen, hR⟩
      cases hvi with
      | nil => rw [List.zip_nil_left] at hz; cases hz
      | cons a t hvi' =>
        cases hwi with
        | nil => rw [List.zip_nil_right] at hz; cases hz
        | cons c u hwi' =>
          rw [List.zip_cons_cons] at hz
          injection hz with hyx hrest
          injection hyx with hy hx
          subst hy hx
          rw [lexLt_cons] at hR
          simp only [List.length_cons] at hlen
          obtain ⟨e, he, hiff⟩ := zk0 A.in1 ⟨hp, g, d, tk, os⟩ a t c u
          refine wpAny_bind (he prog w _ _ ?_)
          cases e with
          | true =>
            rw [if_pos (hiff.mp rfl)] at hR
            wp_walk
            exact ⟨rfl, rfl, _, _, _, _, hrest, hvi', hwi', by omega, hR⟩
          | false =>
            rw [if_neg (fun q => absurd (hiff.mpr q) Bool.false_ne_true)] at hR
            have hri := zk1 A.in1 ⟨hp, g, d, tk, os⟩ a t c u prog w
            wp_walk using hri
            exact ⟨_, rfl, by simpa using hR⟩
    case fin =>
      rintro ⟨b1, b2⟩ s' ⟨hb', rfl, vs, ws, ns', ms', hz, hvi, hwi, hlen, hR⟩
      simp only at hb'
      subst hb'
      have hv : lexLt ns' ms' = decide (items.size < items2.size) := by
        cases hvi with
        | nil =>
          cases hwi with
          | nil =>
            simp only [List.length_nil] at hlen
            rw [zfb]
            exact (decide_eq_false (by omega)).symm
          | cons c u hw =>
            simp only [List.length_nil, List.length_cons] at hlen
            rw [zey]
            exact (decide_eq_true (by omega)).symm
        | cons a t hv =>
          cases hwi with
          | nil =>
            simp only [List.length_nil, List.length_cons] at hlen
            rw [zez]
            exact (decide_eq_false (by omega)).symm
          | cons c u hw =>
            rw [List.zip_cons_cons] at hz
            cases hz
      rw [hv] at hR
      wp_walk
      exact ⟨_, rfl, by simpa [Builtin.Tuple.tupleCompareSizes] using hR⟩
    case h =>
      exact ⟨rfl, rfl, items.toList, items2.toList, ns, ms, rfl, hi, hj, by omega, h⟩
end
section
variable {prog : Program} {w : World} {A : Around} {E : Value → Shared → Prop} {s : Shared}
theorem lt_tupInts {l b : Addr} {items items2 : Array Value} {ns ms : List Int} {Q : Value → Shared → Prop} (hl : IsTup s.heap l items) (hb : IsTup s.heap b items2) (hi : IntsAre items.toList ns) (hj : IntsAre items2.toList ms)
    (hu : A.units < cLine) (h : Q (.bool (lexLt ns ms)) s) : wpAny (model prog w) A (compareOp .Lt (.ref l) (.ref b)) Q E s := by
  obtain ⟨⟨cls, dd, data, sl⟩, ho, hc, n, hd⟩ := id hl
  obtain ⟨⟨cls2, dd2, data2, sl2⟩, ho2, hc2, n2, hd2⟩ := id hb
  simp only at hc hd hc2 hd2
  subst hc hd hc2 hd2
  exact richCompare_meets_room (op := .Lt) ⟨_, ho, rfl⟩ ⟨_, ho2, rfl⟩ PySem.F.slot_tuple_lt PySem.F.entry_tuple_lt (PySem.F.args_tuple_lt_2 _ _) (zfc l b items items2 n n2 dd dd2 sl sl2 ns ms hi hj)
    ⟨ho, ho2, show Value.bool (lexLt ns ms) ≠ Value.notImplemented ∧ Q (.bool (lexLt ns ms)) s from ⟨(fun x => nomatch x), h⟩⟩ hu
theorem cat_tup {t b : Addr} {vs ws : List Value} {Q : Value → Shared → Prop} (ht : IsTup s.heap t vs.toArray) (hb : IsTup s.heap b ws.toArray) (hv : vs ≠ [])
    (h1 : ws = [] → Q (.ref t) s) (h2 : ws ≠ [] → Q (.ref s.heap.objs.size) { s with heap := s.heap.push { cls := .type "tuple", data := .seq (vs ++ ws).toArray } })
    (hsz : vs.length + ws.length ≤ sizeLine) : wpAny (model prog w) A (binaryOp .Add (.ref t) (.ref b)) Q E s := by
  obtain ⟨⟨cls, dd, data, sl⟩, ho, hc, n, hd⟩ := id ht
  obtain ⟨⟨cls2, dd2, data2, sl2⟩, ho2, hc2, n2, hd2⟩ := id hb
  simp only at hc hd hc2 hd2
  subst hc hd hc2 hd2
  have e : vs.toArray ++ ws.toArray = (vs ++ ws).toArray := by simp
  by_cases hw : ws = []
  · exact concat_meets ⟨_, ho, rfl⟩ ⟨_, ho2, rfl⟩ noFill_tuple_add seq_tuple_add PySem.F.slot_tuple_add PySem.F.entry_tuple_add (PySem.F.args_tuple_add_2 _ _)
      (tuple_addW1 t b vs.toArray ws.toArray n n2 dd dd2 sl sl2 (by simpa using hv) (by simp [hw])) ⟨ho, ho2, h1 hw⟩
  · refine concat_meets ⟨_, ho, rfl⟩ ⟨_, ho2, rfl⟩ noFill_tuple_add seq_tuple_add PySem.F.slot_tuple_add PySem.F.entry_tuple_add (PySem.F.args_tuple_add_2 _ _)
      (tuple_addW2 t b vs.toArray ws.toArray n n2 dd dd2 sl sl2 (by simpa using hv) (by simpa using hw) (by rw [List.size_toArray, List.size_toArray]; exact hsz)) ⟨ho, ho2, ?_⟩
    rw [e]
    exact h2 hw
noncomputable def sIx (n d : Nat) : Option Int → Nat
  | none => d
  | some v => if v < 0 then (v + (n : Int)).toNat else min v.toNat n
theorem sIx_none (n d : Nat) : sIx n d none = d := rfl
theorem sIx_nat (n d k : Nat) : sIx n d (some (k : Int)) = min k n := by
  show (if (k : Int) < 0 then ((k : Int) + (n : Int)).toNat else min (k : Int).toNat n) = min k n
  rw [if_neg (by omega), Int.toNat_natCast]
end
end HT
namespace L2
open PySem PySem.Spec PyProof.Rows
noncomputable abbrev TO := St → Hp → (Option Int → Hp → Prop) → Prop
noncomputable def PO (X : Cx) (e : Option Expr) (t : TO) : Prop :=
  ∀ (pins : List (Addr × Obj)) (s : Shared) (σ : St) (H : Hp) (Q : Option Int → Hp → Prop), Inv X pins σ H s → t σ H Q →
    wpAny (model X.prog X.w) X.A (evalPart e X.env) (fun u s' => ∃ o H', Inv X pins σ H' s' ∧ IsPart u o ∧ Q o H') X.xe s
noncomputable def zm4 : TO := fun _ H Q => Q none H
noncomputable def zsN (t : TE) : TO := fun σ H Q => t σ H fun x H1 => ∃ i, x = .int i ∧ Q (some i) H1
theorem zeN {ns : List Int} : ∀ {us : List Value}, Vals (ns.map V.int) us → IntsAre us ns := by
  induction ns with
  | nil => intro us r; rw [List.map_nil] at r; cases r; exact .nil
  | cons n ns ih =>
    intro us r
    rw [List.map_cons] at r
    cases r with
    | cons r1 r2 =>
      obtain ⟨t, e⟩ := r1
      subst e
      exact .cons n t (ih r2)
section
variable {X : Cx} {e : Expr} {te : TE} {lo hi : Option Expr} {tl th : TO} {pos p2 : Pos}
theorem zm5 : PO X none zm4 := by
  intro pins s σ H Q I h
  rw [evalPart_none]
  exact wpAny_pure ⟨none, H, I, .none, h⟩
theorem zm6 (h : PE X e te) : PO X (some e) (zsN te) := by
  intro pins s σ H Q I hw
  rw [evalPart_some]
  refine thn (h pins s σ H _ I hw) fun u s1 ⟨x, H1, I1, r1, q1⟩ => ?_
  obtain ⟨i, rfl, q⟩ := q1
  obtain ⟨t, rfl⟩ := r1
  exact ⟨some i, H1, I1, .int i t, q⟩
noncomputable def SlR (X : Cx) (r : V → Option Int → Option Int → Hp → VK → Prop) : Prop :=
  ∀ (pins : List (Addr × Obj)) (s : Shared) (σ : St) (H : Hp) (x : V) (v vl vu : Value) (lo hi : Option Int) (sl : Addr) (Q : VK), Inv X pins σ H s → RelV x v → s.heap.IsSliceOf sl vl vu .none → IsPart vl lo → IsPart vu hi → r x lo hi H Q →
    ∃ T id, typeLookup (.type T) "__getitem__" = pure (some (.builtin id)) ∧ s.TypeIs v T ∧ wpAny (model X.prog X.w) X.A (getItem v (.ref sl)) (EP X pins σ Q) X.xe s
theorem SlR.or {r r' : V → Option Int → Option Int → Hp → VK → Prop} (h : SlR X r) (h' : SlR X r') : SlR X (fun x lo hi H Q => r x lo hi H Q ∨ r' x lo hi H Q) := by
  intro pins s σ H x v vl vu lo hi sl Q I rx hs pl pu q
  rcases q with q | q
  · exact h pins s σ H x v vl vu lo hi sl Q I rx hs pl pu q
  · exact h' pins s σ H x v vl vu lo hi sl Q I rx hs pl pu q
noncomputable def tSl (r : V → Option Int → Option Int → Hp → VK → Prop) (te : TE) (tl th : TO) : TE := fun σ H Q => te σ H fun x H1 => tl σ H1 fun l H2 => th σ H2 fun u H3 => r x l u H3 Q
theorem zk2 {r : V → Option Int → Option Int → Hp → VK → Prop} (hr : SlR X r) (he : PE X e te) (hl : PO X lo tl) (hu : PO X hi th) : PE X (.Subscript e (.Slice lo hi none p2) pos) (tSl r te tl th) := by
  intro pins s σ H Q I h
  refine Subscript_ (thn (he pins s σ H _ I h) fun v s1 ⟨x, H1, I1, r1, q1⟩ => ?_)
  refine wpAny_Slice (thn (hl pins s1 σ H1 _ I1 q1) fun vl s2 ⟨l, H2, I2, pl, q2⟩ => thn (hu pins s2 σ H2 _ I2 q2) fun vu s3 ⟨u, H3, I3, pu, q3⟩ => ?_)
  rw [evalPart_none]
  refine wpAny_pure ?_
  have I4 : Inv X pins σ H3 { s3 with heap := s3.heap.push { cls := .type "slice", data := .fields #[vl, vu, .none] } } := I3.kept (t' := s3.toks) fun b ob q => Heap.get?_push_of_some _ q
  obtain ⟨T, id, hT, ht, hg⟩ := hr pins { s3 with heap := s3.heap.push { cls := .type "slice", data := .fields #[vl, vu, .none] } } σ H3 x v vl vu l u s3.heap.objs.size Q I4 r1 (Heap.IsSliceOf.new ..) pl pu q3
  show wpAny (model X.prog X.w) X.A (subscriptTail e (.Slice lo hi none p2) v (.ref s3.heap.objs.size)) (EP X pins σ Q) X.xe { s3 with heap := s3.heap.push { cls := .type "slice", data := .fields #[vl, vu, .none] } }
  exact tail_any (ops := [.ref s3.heap.objs.size, v]) ht hT hg (by with_unfolding_all rfl)
noncomputable def zok (xs : List V) (lo hi : Option Int) : List V := (xs.drop (HT.sIx xs.length 0 lo)).take (HT.sIx xs.length xs.length hi - HT.sIx xs.length 0 lo)
theorem zhh (xs : List V) (lo hi : Option Int) : (zok xs lo hi).length ≤ xs.length := by
  unfold zok
  rw [List.length_take, List.length_drop]
  omega
noncomputable def zvx (K : PySem.W.Frag) : R2 := fun x y H Q => ∃ a b ns ms, x = .ref a ∧ y = .ref b ∧ SqT K H a (ns.map V.int) ∧ SqT K H b (ms.map V.int) ∧ Q (.bl (HT.lexLt ns ms)) H
theorem zo2 (hu : X.A.units < cLine) : OpR X (compareOp .Lt) (zvx X.K) := by
  intro pins s σ H x y v u Q I rx ry h
  obtain ⟨a, b, ns, ms, rfl, rfl, ha, hb, q⟩ := h
  cases rx
  cases ry
  obtain ⟨its, r1, p1, _⟩ := I.tuple ha
  obtain ⟨its2, r2, p2, _⟩ := I.tuple hb
  have i1 : IntsAre its.toArray.toList ns := zeN r1
  have i2 : IntsAre its2.toArray.toList ms := zeN r2
  exact HT.lt_tupInts p1 p2 i1 i2 hu ⟨.bl (HT.lexLt ns ms), H, I, rfl, q⟩
noncomputable def zsO (K : PySem.W.Frag) : R2 := fun x y H Q => ∃ a b xs ys, x = .ref a ∧ y = .ref b ∧ SqT K H a xs ∧ SqT K H b ys ∧ xs ≠ [] ∧ xs.length + ys.length ≤ sizeLine ∧
  (ys = [] → Q (.ref a) H) ∧ (ys ≠ [] → ∀ p, H p = none → Q (.ref p) (upd H p (.tup (xs ++ ys))))
theorem Vals.nil_iff {xs : List V} {us : List Value} (r : Vals xs us) : us = [] ↔ xs = [] := by
  cases r with
  | nil => simp
  | cons _ _ => simp
theorem zm7 : OpR X (binaryOp .Add) (zsO X.K) := by
  intro pins s σ H x y v u Q I rx ry h
  obtain ⟨a, b, xs, ys, rfl, rfl, ha, hb, hx, hz, q1, q2⟩ := h
  cases rx
  cases ry
  obtain ⟨its, r1, p1, _⟩ := I.tuple ha
  obtain ⟨its2, r2, p2, _⟩ := I.tuple hb
  refine HT.cat_tup p1 p2 (fun z => hx (r1.nil_iff.mp z)) (fun z => ⟨.ref a, H, I, rfl, q1 (r2.nil_iff.mp z)⟩) (fun z => ?_) (by rw [← r1.length, ← r2.length]; exact hz)
  refine ⟨.ref s.heap.objs.size, _, I.laid (t' := s.toks) (o := .tup (xs ++ ys)) (fun b ob q => Heap.get?_push_of_some _ q) (Nat.le_refl _) ?_, rfl, q2 (fun w => z (r2.nil_iff.mpr w)) _ (I.hok.fresh (Nat.le_refl _))⟩
  exact ⟨by rw [List.length_append]; exact hz, _, r1.append r2, IsTup.new _ _⟩
end
end L2
namespace L2
open PySem PySem.Spec PyProof.Rows
noncomputable def ixN (n : Nat) (i : Int) : Option Nat := if 0 ≤ i then (if i < n then some i.toNat else none) else if -(n : Int) ≤ i then some (i + n).toNat else none
noncomputable def atI {α : Type} (xs : List α) (i : Int) : Option α := (ixN xs.length i).bind fun j => xs[j]?
theorem zm8 {n : Nat} {i : Int} {j : Nat} (h : ixN n i = some j) : seqIndex? i n = some j ∧ j < n ∧ -(n : Int) ≤ i ∧ i < n := by
  unfold ixN at h
  by_cases h0 : 0 ≤ i
  · rw [if_pos h0] at h
    by_cases h1 : i < n
    · rw [if_pos h1] at h
      have e : i.toNat = j := Option.some.inj h
      exact ⟨by rw [seqIndex_of h0 h1, e], by omega, by omega, h1⟩
    · rw [if_neg h1] at h; cases h
  · rw [if_neg h0] at h
    by_cases h1 : -(n : Int) ≤ i
    · rw [if_pos h1] at h
      have e : (i + n).toNat = j := Option.some.inj h
      exact ⟨by rw [seqIndex_neg (by omega) h1, e], by omega, h1, by omega⟩
    · rw [if_neg h1] at h; cases h
theorem zjB {α : Type} {xs : List α} {i : Int} {v : α} (h : atI xs i = some v) : ∃ j, seqIndex? i xs.length = some j ∧ xs[j]? = some v ∧ j < xs.length ∧ -(xs.length : Int) ≤ i ∧ i < xs.length := by
  unfold atI at h
  cases e : ixN xs.length i with
  | none => rw [e] at h; cases h
  | some j =>
    rw [e] at h
    obtain ⟨h1, h2, h3, h4⟩ := zm8 e
    exact ⟨j, h1, h, h2, h3, h4⟩
theorem atI_nat {α : Type} {xs : List α} {j : Nat} {v : α} (h : xs[j]? = some v) : atI xs (j : Int) = some v := by
  have hj : j < xs.length := (List.getElem?_eq_some_iff.mp h).1
  have e : ixN xs.length (j : Int) = some j := by
    unfold ixN
    rw [if_pos (by omega), if_pos (by omega)]; simp
  unfold atI; rw [e]; exact h
noncomputable def zjC (b : Expr) : Prop := ∀ o i, subscripted b false o i = operate [o, i] (getItem o i)
noncomputable def IxR (X : Cx) (r : R2) : Prop :=
  ∀ (value slice : Expr) (pins : List (Addr × Obj)) (s : Shared) (σ : St) (H : Hp) (x y : V) (v u : Value) (Q : VK), Inv X pins σ H s → RelV x v → RelV y u → r x y H Q →
    subscripted slice false v u = operate [v, u] (getItem v u) → wpAny (model X.prog X.w) X.A (subscriptTail value slice v u) (EP X pins σ Q) X.xe s
noncomputable def MtR (X : Cx) (id : String) (r : V → List V → Hp → VK → Prop) : Prop :=
  ∀ (pins : List (Addr × Obj)) (s : Shared) (σ : St) (H : Hp) (x : V) (xs : List V) (v : Value) (us : List Value) (Q : VK), Inv X pins σ H s → RelV x v → Vals xs us → r x xs H Q →
    wpAny (model X.prog X.w) X.A (call (.builtin id) (v :: us)) (EP X pins σ Q) X.xe s
section
variable {X : Cx} {a b : Expr} {ta tb : TE} {pos : Pos}
theorem IxR.or {r r' : R2} (h : IxR X r) (h' : IxR X r') : IxR X (fun x y H Q => r x y H Q ∨ r' x y H Q) := by
  intro value slice pins s σ H x y v u Q I rx ry q hs
  rcases q with q | q
  · exact h value slice pins s σ H x y v u Q I rx ry q hs
  · exact h' value slice pins s σ H x y v u Q I rx ry q hs
theorem MtR.or {id : String} {r r' : V → List V → Hp → VK → Prop} (h : MtR X id r) (h' : MtR X id r') : MtR X id (fun x xs H Q => r x xs H Q ∨ r' x xs H Q) := by
  intro pins s σ H x xs v us Q I rx rs q
  rcases q with q | q
  · exact h pins s σ H x xs v us Q I rx rs q
  · exact h' pins s σ H x xs v us Q I rx rs q
theorem zsP {r : R2} (hr : IxR X r) (ha : PE X a ta) (hb : PE X b tb) (hs : zjC b) : PE X (.Subscript a b pos) (tOp r ta tb) := by
  intro pins s σ H Q I h
  exact Subscript_ (zsB ha hb I h fun v u s2 x y H2 I2 rx ry q => hr a b pins s2 σ H2 x y v u Q I2 rx ry q (hs _ _))
noncomputable def zvy (K : PySem.W.Frag) : R2 := fun x y H Q => ∃ p xs i v, x = .ref p ∧ y = .int i ∧ SqL K H p xs ∧ atI xs i = some v ∧ Q v H
noncomputable def zvz (K : PySem.W.Frag) : R2 := fun x y H Q => ∃ p xs i v, x = .ref p ∧ y = .int i ∧ SqT K H p xs ∧ atI xs i = some v ∧ Q v H
theorem zm9 : IxR X (zvy X.K) := by
  intro value slice pins s σ H x y v u Q I rx ry h hs
  obtain ⟨p, xs, i, z, rfl, rfl, hq, he, q⟩ := h
  cases rx
  obtain ⟨t, rfl⟩ := ry
  obtain ⟨its, r, pl, hz⟩ := I.list hq
  obtain ⟨j, h1, h2, h3, h4, h5⟩ := zjB he
  obtain ⟨w, ew, rw'⟩ := r.get h2
  have hl := r.length
  have hn := zhM
  have fin : EP X pins σ Q w s := ⟨z, H, I, rw', q⟩
  by_cases h0 : 0 ≤ i
  · have hj : i.toNat = j := by
      rw [seqIndex_of h0 h5] at h1
      exact Option.some.inj h1
    exact item_listR pl.isList h0 (by omega) (by rw [hj]; simpa using ew) fin hs
  · have hj : (i + (its.toArray.size : Int)).toNat = j := by
      rw [seqIndex_neg (by omega) h4] at h1
      rw [List.size_toArray, ← hl]
      exact Option.some.inj h1
    exact subscriptTail_builtinR (x := w) pl.isList.typeIs slot_list_getitem.lookup
      (wpAny_getItem_list_neg (Q := fun r s' => r = w ∧ EP X pins σ Q r s') pl.isList (by omega) (by rw [List.size_toArray] <;> omega) (by omega) (by rw [hj]; simpa using ew) ⟨rfl, fin⟩) hs
theorem zo3 : IxR X (zvz X.K) := by
  intro value slice pins s σ H x y v u Q I rx ry h hs
  obtain ⟨p, xs, i, z, rfl, rfl, hq, he, q⟩ := h
  cases rx
  obtain ⟨t, rfl⟩ := ry
  obtain ⟨its, r, pl, hz⟩ := I.tuple hq
  obtain ⟨j, h1, h2, h3, h4, h5⟩ := zjB he
  obtain ⟨w, ew, rw'⟩ := r.get h2
  have hl := r.length
  have hn := zhM
  have fin : EP X pins σ Q w s := ⟨z, H, I, rw', q⟩
  exact subscriptTail_builtinR (x := w) pl.typeIs slot_tuple_getitem.lookup
    (getItem_tuple (j := j) (Q := fun r s' => r = w ∧ EP X pins σ Q r s') pl (by omega) (by omega) (by rw [List.size_toArray, ← hl]; exact h1) (by simpa using ew) ⟨rfl, fin⟩) hs
theorem Inv.lst {pins : List (Addr × Obj)} {σ : St} {H : Hp} {s : Shared} {p : Addr} {xs : List V} (I : Inv X pins σ H s) (h : H p = some (.lst xs)) :
    ∃ (its : List Value) (n : Nat), Vals xs its ∧ s.heap.get? p = some { cls := .type "list", data := .seq its.toArray n } ∧ xs.length ≤ sizeLine := by
  obtain ⟨z, its, n, r, e⟩ := I.hok p _ h
  exact ⟨its, n, r, e, z⟩
theorem zgd (lo hi : Option Int) (n : Nat) : (sliceBounds lo hi none n).1 = ((HT.sIx n 0 lo : Nat) : Int) ∧ (sliceBounds lo hi none n).2.1 = ((HT.sIx n n hi : Nat) : Int) ∧ (sliceBounds lo hi none n).2.2 = 1 := by
  refine ⟨?_, ?_, rfl⟩
  · cases lo with
    | none => simp [sliceBounds, HT.sIx]
    | some i =>
      simp only [sliceBounds, HT.sIx, Option.getD_none, show (1 : Int) > 0 by decide, if_true]
      by_cases h : i < 0
      · simp only [h, if_true] <;> omega
      · simp only [h, if_false] <;> omega
  · cases hi with
    | none => simp [sliceBounds, HT.sIx]
    | some i =>
      simp only [sliceBounds, HT.sIx, Option.getD_none, show (1 : Int) > 0 by decide, if_true]
      by_cases h : i < 0
      · simp only [h, if_true] <;> omega
      · simp only [h, if_false] <;> omega
theorem zfd (its : List Value) (lo hi : Option Int) : slicePick its.toArray lo hi none = ((its.drop (HT.sIx its.length 0 lo)).take (HT.sIx its.length its.length hi - HT.sIx its.length 0 lo)).toArray := by
  obtain ⟨h1, h2, h3⟩ := zgd lo hi its.toArray.size
  unfold slicePick
  rw [h1, h2, h3]
  simp only [sliceRange_one, pick_run, List.size_toArray] <;> rfl
noncomputable def zvA (K : PySem.W.Frag) : V → Option Int → Option Int → Hp → VK → Prop := fun x lo hi H Q => ∃ a xs, x = .ref a ∧ SqL K H a xs ∧ ∀ p, H p = none → Q (.ref p) (upd H p (.lst (zok xs lo hi)))
theorem zna : SlR X (zvA X.K) := by
  intro pins s σ H x v vl vu lo hi sl Q I rx hs pl pu h
  obtain ⟨a, xs, rfl, hx, q⟩ := h
  cases rx
  obtain ⟨its, r, ht, hz⟩ := I.list hx
  have hlen := r.length
  refine ⟨"list", _, slot_list_getitem.lookup, ht.isList.typeIs, ?_⟩
  refine wpAny_getItem_list_slice ht.isList hs pl pu .none (by simp) ?_ (by rw [List.size_toArray] <;> omega)
  rw [zfd, ← hlen]
  refine ⟨.ref s.heap.objs.size, _, I.laid (t' := s.toks) (o := .lst (zok xs lo hi)) (fun b ob q => Heap.get?_push_of_some _ q) (Nat.le_refl _) ?_, rfl, q _ (I.hok.fresh (Nat.le_refl _))⟩
  exact ⟨Nat.le_trans (zhh xs lo hi) hz, _, 0, (r.drop (HT.sIx xs.length 0 lo)).take (HT.sIx xs.length xs.length hi - HT.sIx xs.length 0 lo), Heap.get?_push_size _ rfl⟩
theorem zdE : CallR X (.builtin "len") (fun xs H Q => ∃ p ys, xs = [.ref p] ∧ (SqL X.K H p ys ∨ SqT X.K H p ys) ∧ Q (.int ys.length) H) := by
  intro pins s σ H xs us Q I r h
  obtain ⟨p, ys, rfl, hq, q⟩ := h
  obtain ⟨u, rfl, rx⟩ := zkZ r
  cases rx
  have hn := zhM
  rcases hq with hq | hq
  · obtain ⟨its, r', pl, hz⟩ := I.list hq
    have hlen := r'.length
    exact Calls.call_len_list pl.isList (by simp only [List.size_toArray] <;> omega) ⟨.int ys.length, H, I.tok _, ⟨s.toks + 1, by rw [List.size_toArray, hlen]⟩, q⟩
  · obtain ⟨its, r', pl, hz⟩ := I.tuple hq
    have hlen := r'.length
    exact len_tuple pl (by simp only [List.size_toArray] <;> omega) ⟨.int ys.length, H, I.tok _, ⟨s.toks + 1, by rw [List.size_toArray, hlen]⟩, q⟩
theorem CallR.or {f : Value} {r r' : List V → Hp → VK → Prop} (h : CallR X f r) (h' : CallR X f r') : CallR X f (fun xs H Q => r xs H Q ∨ r' xs H Q) := by
  intro pins s σ H xs us Q I rs q
  rcases q with q | q
  · exact h pins s σ H xs us Q I rs q
  · exact h' pins s σ H xs us Q I rs q
theorem zdF : CallR X (.type "list") (fun xs H Q => ∃ p ys, xs = [.ref p] ∧ (SqL X.K H p ys ∨ SqT X.K H p ys) ∧ ∀ l, H l = none → Q (.ref l) (upd H l (.lst ys))) := by
  intro pins s σ H xs us Q I r h
  obtain ⟨p, ys, rfl, hq, q⟩ := h
  obtain ⟨u, rfl, rx⟩ := zkZ r
  cases rx
  have fin : ∀ (its : List Value), Vals ys its → ys.length ≤ sizeLine → ∀ (h' : Heap) (c' : Nat), (∀ b o', s.heap.get? b = some o' → h'.get? b = some o') →
      h'.get? s.heap.objs.size = some { cls := .type "list", dict := none, data := .seq its.toArray c', slots := #[] } → EP X pins σ Q (.ref s.heap.objs.size) { s with heap := h' } := fun its r' hz h' c' kp e =>
    ⟨.ref s.heap.objs.size, _, I.laid (t' := s.toks) kp (Nat.le_refl _) (show ObjOk X.prog X.w _ h' _ (.lst ys) from ⟨hz, its, c', r', e⟩), rfl, q _ (I.hok.fresh (Nat.le_refl _))⟩
  rcases hq with hq | hq
  · obtain ⟨its, r', pl, hz⟩ := I.list hq
    have hlen := r'.length
    obtain ⟨o, ho, hc, n, hd⟩ := pl.isList
    exact call_list_seq p (.inl rfl) ho hc hd (fun h' c' kp e => fin its r' hz h' c' kp e) (by simp only [List.size_toArray] <;> omega)
  · obtain ⟨its, r', pl, hz⟩ := I.tuple hq
    have hlen := r'.length
    obtain ⟨o, ho, hc, n, hd⟩ := pl
    exact call_list_seq p (.inr rfl) ho hc hd (fun h' c' kp e => fin its r' hz h' c' kp e) (by simp only [List.size_toArray] <;> omega)
theorem zcX : CallR X (.type "tuple") (fun xs H Q => ∃ p ys, xs = [.ref p] ∧ ((SqL X.K H p ys ∧ ∀ l, H l = none → Q (.ref l) (upd H l (.tup ys))) ∨ (SqT X.K H p ys ∧ Q (.ref p) H))) := by
  intro pins s σ H xs us Q I r h
  obtain ⟨p, ys, rfl, h⟩ := h
  obtain ⟨u, rfl, rx⟩ := zkZ r
  cases rx
  rcases h with ⟨hq, q⟩ | ⟨hq, q⟩
  · obtain ⟨its, r', pl, hz⟩ := I.list hq
    have hlen := r'.length
    refine call_tuple_list pl.isList (fun h' kp => ?_) (by simp only [List.size_toArray] <;> omega)
    have I1 : Inv X pins σ H { s with heap := h' } := I.kept (t' := s.toks) kp
    have I2 : Inv X pins σ (upd H h'.objs.size (.tup ys)) { s with heap := h'.push { cls := .type "tuple", data := .seq its.toArray } } :=
      I1.laid (t' := s.toks) (fun b o e => Heap.get?_push_of_some _ e) (Nat.le_refl _) (show ObjOk X.prog X.w _ _ _ (.tup ys) from ⟨hz, its, r', IsTup.new _ _⟩)
    exact ⟨.ref h'.objs.size, _, I2, rfl, q _ (I1.hok.fresh (Nat.le_refl _))⟩
  · obtain ⟨its, r', pl, hz⟩ := I.tuple hq
    exact call_tuple_same pl ⟨.ref p, H, I, rfl, q⟩
noncomputable def tyV (K : PySem.W.Frag) (T : String) (x : V) (H : Hp) : Prop := match x with
  | .str _ => T = "str"
  | .int _ => T = "int"
  | .ref p => (T = "list" ∧ ∃ xs, SqL K H p xs) ∨ (T = "tuple" ∧ ∃ o, K.lookup p = some o ∧ o.cls = .type "tuple" ∧ o.dict = none) ∨
      (T = "dict" ∧ ((∃ kvs, H p = some (.dK kvs)) ∨ ∃ kvs, H p = some (.dT kvs))) ∨ (T = "set" ∧ ∃ S n, H p = some (.set S n))
  | _ => False
theorem zo4 {pins : List (Addr × Obj)} {σ : St} {H : Hp} {s : Shared} {T : String} {x : V} {v : Value} (I : Inv X pins σ H s) (r : RelV x v) (ty : tyV X.K T x H) :
    s.TypeIs v T ∧ ∀ a, v = .ref a → ∃ ob, s.heap.get? a = some ob ∧ ob.dict = none := by
  cases x with
  | str z =>
    obtain ⟨t, rfl⟩ := r
    cases (show T = "str" from ty)
    exact ⟨typeIs_str s z t, fun _ e => nomatch e⟩
  | int i =>
    obtain ⟨t, rfl⟩ := r
    cases (show T = "int" from ty)
    exact ⟨typeIs_int s i t, fun _ e => nomatch e⟩
  | ref p =>
    cases r
    rcases ty with ⟨rfl, xs, hq⟩ | ⟨rfl, o, hk, hc, hd⟩ | ⟨rfl, hk⟩ | ⟨rfl, S, n, hk⟩
    · obtain ⟨its, _, pl, _⟩ := I.list hq
      refine ⟨pl.isList.typeIs, fun a e => ?_⟩
      cases e
      obtain ⟨o, n, e, c, hd, _⟩ := pl
      exact ⟨o, e, hd⟩
    · refine ⟨⟨o, I.kIn p o hk, hc⟩, fun a e => ?_⟩
      cases e
      exact ⟨o, I.kIn _ o hk, hd⟩
    · have z : ∃ o, s.heap.get? p = some o ∧ o.ExactDict := by
        rcases hk with ⟨kvs, hk⟩ | ⟨kvs, hk⟩
        · obtain ⟨_, _, _, _, o, _, _, e, ex, _⟩ := I.hok p _ hk
          exact ⟨o, e, ex⟩
        · obtain ⟨_, _, _, _, o, _, _, e, ex, _⟩ := I.hok p _ hk
          exact ⟨o, e, ex⟩
      obtain ⟨o, e, ex⟩ := z
      refine ⟨⟨o, e, ex.1⟩, fun a e2 => ?_⟩
      cases e2
      exact ⟨o, e, ex.2.1⟩
    · obtain ⟨o, _, _, _, e, ex, _⟩ := I.hok p _ hk
      refine ⟨⟨o, e, ex.1⟩, fun a e2 => ?_⟩
      cases e2
      exact ⟨o, e, ex.2.1⟩
  | _ => exact False.elim ty
noncomputable def tBM (K : PySem.W.Frag) (T : String) (r : V → List V → Hp → VK → Prop) (to : TE) (t : TA) : TE := fun σ H Q => to σ H fun x H1 => tyV K T x H1 ∧ t σ H1 fun xs H2 => r x xs H2 Q
variable {o e : Expr} {es : List Expr} {to : TE} {t : TA} {name : Str} {apos cpos : Pos} {T id : String} {r : V → List V → Hp → VK → Prop}
theorem zsQ (pa : PlainAttrs T) (slot : Slot T name id) (hty : typeOf (.builtin id) = pure (.type "method_descriptor")) (hm : MtR X id r) (ho : PE X o to) (ha : PA X (e :: es) t)
    (hbase : attributeBase o name X.env (eval o X.env) = eval o X.env := by rfl)
    (hfew : ((backTo cpos (starEach (e :: es) X.env)).all (fun x => !x.1) && (backToKw cpos (keywordEach [] X.env)).all (fun x => x.1.isSome)
      && decide ((e :: es).length + ([] : List Keyword).length + (if ([] : List Keyword).isEmpty then 0 else 1) < 30)) = true := by rfl)
    (hline : (apos.endLine == cpos.line) = true := by rfl) (hs : starEach (e :: es) X.env = (false, eval e X.env) :: starEach es X.env := by rfl) (hplain : (backTo cpos (starEach es X.env)).any (·.1) = false := by rfl) :
    PE X (.Call (.Attribute o name apos) (e :: es) [] cpos) (tBM X.K T r to t) := by
  intro pins s σ H Q I h
  refine wpAny_Call_method_late hbase hfew hline rfl (thn (ho pins s σ H _ I h) fun v s1 ⟨x, H1, I1, r1, ty, q1⟩ => ?_)
  obtain ⟨h1, h2⟩ := zo4 I1 r1 ty
  refine ⟨T, id, pa, slot, hty, h1, h2, ?_⟩
  have hA := ha cpos pins s1 σ H1 _ I1 q1
  rw [hs] at hA ⊢
  refine Calls.callWith_builtin (by show (false || (backTo cpos (starEach es X.env)).any (·.1)) = false; rw [hplain] <;> rfl) (Calls.evalArgs_plain ?_)
  exact thn hA fun us s2 ⟨vs, H2, I2, r2, q2⟩ => hm pins s2 σ H2 x vs v us Q I2 r1 r2 q2
end
end L2
namespace L2
open PySem PySem.Spec PyProof.Rows
noncomputable def MtM (X : Cx) (id : String) (r : V → List V → Hp → VK → Prop) : Prop :=
  ∀ (pins : List (Addr × Obj)) (s : Shared) (σ : St) (H : Hp) (x : V) (xs : List V) (v : Value) (us : List Value) (Q : VK), Inv X pins σ H s → RelV x v → Vals xs us → r x xs H Q →
    wpAny (model X.prog X.w) X.A (call (.builtin id) (v :: us)) (EP X pins σ Q) X.xe s
theorem Vals.one : ∀ {x : V} {us : List Value}, Vals [x] us → ∃ u, us = [u] ∧ RelV x u
  | _, _, .cons r .nil => ⟨_, rfl, r⟩
theorem Vals.two : ∀ {x y : V} {us : List Value}, Vals [x, y] us → ∃ u v, us = [u, v] ∧ RelV x u ∧ RelV y v
  | _, _, _, .cons r (.cons q .nil) => ⟨_, _, rfl, r, q⟩
theorem Vals.zero : ∀ {us : List Value}, Vals [] us → us = []
  | _, .nil => rfl
theorem Vals.rep {xs : List V} {us : List Value} (h : Vals xs us) : ∀ k : Nat, Vals (List.replicate k xs).flatten (List.replicate k us).flatten
  | 0 => .nil
  | k + 1 => by
    rw [List.replicate_succ, List.replicate_succ, List.flatten_cons, List.flatten_cons]
    exact Vals.append h (Vals.rep h k)
section
variable {X : Cx} {pins : List (Addr × Obj)} {σ : St} {H : Hp} {s : Shared} {l b : Addr} {xs ys zs : List V}
theorem Inv.lset {its its' : List Value} {n : Nat} {f : Array Value → Array Value} {t' : Nat} (I : Inv X pins σ H s) (hH : H l = some (.lst xs))
    (e : s.heap.get? l = some { cls := .type "list", data := .seq its.toArray n }) (hf : f its.toArray = its'.toArray) (hv : Vals ys its') (hz : ys.length ≤ sizeLine) :
    Inv X pins σ (upd H l (.lst ys)) { s with heap := s.heap.update l (Obj.mapSeq f), toks := t' } := by
  have q := PySem.IsL.update e f
  rw [hf] at q
  refine I.write (x := l) (e := l) (by rw [hH]; exact trivial) (.inl rfl) (fun b' u hb hu => (Heap.get?_update_other s.heap (Obj.mapSeq f) (Ne.symm hb)).trans hu) ⟨_, q⟩ ?_
  exact ⟨hz, its', _, hv, q⟩
theorem Inv.lnew {its : List Value} {t' : Nat} (I : Inv X pins σ H s) (hv : Vals ys its) (hz : ys.length ≤ sizeLine) :
    Inv X pins σ (upd H s.heap.objs.size (.lst ys)) { s with heap := s.heap.push { cls := .type "list", data := .seq its.toArray }, toks := t' } :=
  I.laid (fun _ _ q => Heap.get?_push_of_some _ q) (Nat.le_refl _) ⟨hz, its, 0, hv, Heap.get?_push_size _ rfl⟩
theorem Inv.fresh (I : Inv X pins σ H s) : H s.heap.objs.size = none := I.hok.fresh (Nat.le_refl _)
theorem Inv.lstM (I : Inv X pins σ H s) (hH : H l = some (.lst xs)) : xs.length ≤ sizeLine ∧ ∃ (its : List Value) (n : Nat), Vals xs its ∧ xs.length = its.length ∧ s.heap.get? l = some { cls := .type "list", data := .seq its.toArray n } := by
  obtain ⟨z, its, n, r, e⟩ := I.hok l _ hH
  exact ⟨z, its, n, r, r.length, e⟩
end
section
variable {X : Cx}
noncomputable def znb : V → List V → Hp → VK → Prop := fun x vs H Q => ∃ l xs y, x = .ref l ∧ vs = [y] ∧ H l = some (.lst xs) ∧ xs.length < sizeLine ∧ Q .non (upd H l (.lst (xs ++ [y])))
theorem zge : MtM X "list.append" znb := by
  intro pins s σ H x vs v us Q I rx rv h
  obtain ⟨l, xs, y, rfl, rfl, hH, hz, q⟩ := h
  cases rx
  obtain ⟨u, rfl, ru⟩ := rv.one
  obtain ⟨z, its, n, r, hl, e⟩ := I.lstM hH
  refine call_meets F.slot_list_append ⟨_, e, rfl⟩ F.entry_list_append (F.args_list_append_2 _ _) (PySem.list_append l its.toArray n u (by rw [List.size_toArray]; omega)) ⟨e, ?_⟩
  refine ⟨.non, _, I.lset (its' := its ++ [u]) hH e (by simp) (r.append (.cons ru .nil)) ?_, rfl, q⟩
  rw [List.length_append, List.length_singleton]
  omega
end
end L2
namespace L2
open PySem PySem.Spec PyProof.Rows
section
variable {κ : Type} [DecidableEq κ]
noncomputable def zeO (kvs : List (κ × V)) (k : κ) : Option V := (kvs.find? fun kv => decide (kv.1 = k)).map (·.2)
noncomputable def zmz (kvs : List (κ × V)) (k : κ) (v : V) : List (κ × V) :=
  if (kvs.any fun kv => decide (kv.1 = k)) = true then kvs.map (fun kv => if kv.1 = k then (kv.1, v) else kv) else kvs ++ [(k, v)]
noncomputable def zo5 (kvs : List (κ × V)) (k : κ) : List (κ × V) := kvs.filter fun kv => decide (kv.1 ≠ k)
theorem zcY {p : κ × V} {r : List (κ × V)} {k : κ} (e : p.1 = k) : zeO (p :: r) k = some p.2 := by simp [zeO, List.find?_cons, e]
theorem zcZ {p : κ × V} {r : List (κ × V)} {k : κ} (e : ¬ p.1 = k) : zeO (p :: r) k = zeO r k := by simp [zeO, List.find?_cons, e]
theorem zhO (k : κ) : ∀ kvs : List (κ × V), (kvs.any fun kv => decide (kv.1 = k)) = (zeO kvs k).isSome
  | [] => rfl
  | p :: r => by
    rw [List.any_cons]
    by_cases e : p.1 = k
    · simp only [zcY e, decide_eq_true e, Bool.true_or, Option.isSome_some]
    · rw [zcZ e, decide_eq_false e, Bool.false_or]; exact zhO k r
theorem RelO.isSome_eq {o : Option V} {u : Option Value} (r : RelO o u) : o.isSome = u.isSome := by
  cases o with
  | none => cases u with
    | none => rfl
    | some _ => exact (show False from r).elim
  | some _ => cases u with
    | none => exact (show False from r).elim
    | some _ => rfl
theorem RelO.getD {o : Option V} {u : Option Value} {d : V} {d' : Value} (r : RelO o u) (rd : RelV d d') : RelV (o.getD d) (u.getD d') := by
  cases o with
  | none => cases u with
    | none => exact rd
    | some _ => exact (show False from r).elim
  | some _ => cases u with
    | none => exact (show False from r).elim
    | some _ => exact r
theorem KV.val {kvs : List (κ × V)} {vs : List (κ × Value)} (r : KV kvs vs) (k : κ) : RelO (zeO kvs k) (valueAt vs k) := by
  unfold KV at r
  induction r with
  | nil => exact True.intro
  | @cons p q ps qs h t ih =>
    obtain ⟨h1, h2⟩ := h
    by_cases e : p.1 = k
    · have e' : q.1 = k := h1.symm.trans e
      have b : valueAt (q :: qs) k = some q.2 := by simp [valueAt, List.find?_cons, e']
      rw [zcY e, b]; exact h2
    · have e' : ¬ q.1 = k := fun z => e (h1.trans z)
      have b : valueAt (q :: qs) k = valueAt qs k := by simp [valueAt, List.find?_cons, e']
      rw [zcZ e, b]; exact ih
theorem KV.any {kvs : List (κ × V)} {vs : List (κ × Value)} (r : KV kvs vs) (k : κ) : (kvs.any fun kv => decide (kv.1 = k)) = vs.any fun kv => decide (kv.1 = k) := by
  unfold KV at r
  induction r with
  | nil => rfl
  | cons h t ih => rw [List.any_cons, List.any_cons, ih, h.1]
theorem KV.repl {kvs : List (κ × V)} {vs : List (κ × Value)} (r : KV kvs vs) (k : κ) {y : V} {u : Value} (ry : RelV y u) :
    KV (kvs.map fun kv => if kv.1 = k then (kv.1, y) else kv) (vs.map fun kv => if kv.1 = k then (kv.1, u) else kv) := by
  unfold KV at r ⊢
  induction r with
  | nil => exact .nil
  | @cons p q ps qs h t ih =>
    rw [List.map_cons, List.map_cons]
    refine .cons ?_ ih
    obtain ⟨h1, h2⟩ := h
    by_cases e : p.1 = k
    · rw [if_pos e, if_pos (h1.symm.trans e)]; exact ⟨h1, ry⟩
    · rw [if_neg e, if_neg (fun z => e (h1.trans z))]; exact ⟨h1, h2⟩
theorem KV.put {kvs : List (κ × V)} {vs : List (κ × Value)} (r : KV kvs vs) (k : κ) {y : V} {u : Value} (ry : RelV y u) : KV (zmz kvs k y) (stored vs k u) := by
  unfold zmz stored
  rw [r.any k]
  by_cases e : (vs.any fun kv => decide (kv.1 = k)) = true
  · rw [if_pos e, if_pos e]; exact r.repl k ry
  · rw [if_neg e, if_neg e]; exact Paired.snoc r ⟨rfl, ry⟩
theorem KV.drop {kvs : List (κ × V)} {vs : List (κ × Value)} (r : KV kvs vs) (k : κ) : KV (zo5 kvs k) (without vs k) := by
  unfold KV at r ⊢
  unfold zo5 without
  induction r with
  | nil => exact .nil
  | @cons p q ps qs h t ih =>
    obtain ⟨h1, h2⟩ := h
    rw [List.filter_cons, List.filter_cons]
    by_cases e : p.1 = k
    · have a : ¬ decide (p.1 ≠ k) = true := by simp [e]
      have b : ¬ decide (q.1 ≠ k) = true := by simp [h1.symm.trans e]
      rw [if_neg a, if_neg b]; exact ih
    · have e' : ¬ q.1 = k := fun z => e (h1.trans z)
      have a : decide (p.1 ≠ k) = true := by simp [e]
      have b : decide (q.1 ≠ k) = true := by simp [e']
      rw [if_pos a, if_pos b]; exact .cons ⟨h1, h2⟩ ih
theorem KV.keys {kvs : List (κ × V)} {vs : List (κ × Value)} (r : KV kvs vs) : kvs.map (·.1) = vs.map (·.1) := by
  unfold KV at r
  induction r with
  | nil => rfl
  | cons h t ih => rw [List.map_cons, List.map_cons, ih, h.1]
theorem KV.length {kvs : List (κ × V)} {vs : List (κ × Value)} (r : KV kvs vs) : kvs.length = vs.length := Paired.length r
end
theorem znc {P : Program} {w : World} {k : Key} {u : Value} (r : RelV (kV k) u) : (zbH P w).is k u = true := by
  cases k with
  | inl i => obtain ⟨t, e⟩ := (show ∃ t, u = Value.int i t from r); subst e; exact zhe P w i t
  | inr x => obtain ⟨t, e⟩ := (show ∃ t, u = Value.str x t from r); subst e; exact zhf P w x t
theorem zgf {P : Program} {w : World} : ∀ {ks : List Key} {us : List Value}, Vals (ks.map kV) us → ItemsAre (zbH P w) ks us
  | [], _, r => by rw [List.map_nil] at r; cases r; exact .nil
  | k :: ks, _, r => by
    rw [List.map_cons] at r
    cases r with
    | cons h t => exact .cons (znc h) (zgf t)
noncomputable abbrev KT (H : Hp) : List (List Key × V) → List (List Key × Addr × Value) → Prop := Paired fun p q => p.1 = q.1 ∧ H q.2.1 = some (.tup (p.1.map kV)) ∧ RelV p.2 q.2.2
theorem KT.val {H : Hp} {kvs : List (List Key × V)} {xs : List (List Key × Addr × Value)} (r : KT H kvs xs) (k : List Key) : RelO (zeO kvs k) ((atKey xs k).map (·.2)) := by
  induction r with
  | nil => exact True.intro
  | @cons p q ps qs h t ih =>
    obtain ⟨h1, _, h2⟩ := h
    by_cases e : p.1 = k
    · have e' : q.1 = k := h1.symm.trans e
      have b : atKey (q :: qs) k = some q.2 := by simp [atKey, List.find?_cons, e']
      rw [zcY e, b]; exact h2
    · have e' : ¬ q.1 = k := fun z => e (h1.trans z)
      have b : atKey (q :: qs) k = atKey qs k := by simp [atKey, List.find?_cons, e']
      rw [zcZ e, b]; exact ih
theorem KT.repl {H : Hp} {kvs : List (List Key × V)} {xs : List (List Key × Addr × Value)} (r : KT H kvs xs) (k : List Key) {y : V} {u : Value} (ry : RelV y u) :
    KT H (kvs.map fun kv => if kv.1 = k then (kv.1, y) else kv) (xs.map (putAt k u)) := by
  induction r with
  | nil => exact .nil
  | @cons p q ps qs h t ih =>
    rw [List.map_cons, List.map_cons]
    refine .cons ?_ ih
    obtain ⟨h1, h2, h3⟩ := h
    unfold putAt
    by_cases e : p.1 = k
    · rw [if_pos e, if_pos (h1.symm.trans e)]; exact ⟨h1, h2, ry⟩
    · rw [if_neg e, if_neg (fun z => e (h1.trans z))]; exact ⟨h1, h2, h3⟩
theorem KT.put {H : Hp} {kvs : List (List Key × V)} {xs : List (List Key × Addr × Value)} (r : KT H kvs xs) (k : List Key) {b : Addr} {y : V} {u : Value} (hb : H b = some (.tup (k.map kV))) (ry : RelV y u) :
    KT H (zmz kvs k y) (storedH xs k b u) := by
  have e : (kvs.any fun kv => decide (kv.1 = k)) = (atKey xs k).isSome := by
    rw [zhO, (r.val k).isSome_eq, Option.isSome_map]
  unfold zmz storedH
  rw [e]
  by_cases q : (atKey xs k).isSome = true
  · rw [if_pos q, if_pos q]; exact r.repl k ry
  · rw [if_neg q, if_neg q]; exact Paired.snoc r ⟨rfl, hb, ry⟩
theorem KT.keeps {H H' : Hp} {kvs : List (List Key × V)} {xs : List (List Key × Addr × Value)} (r : KT H kvs xs) (ht : ∀ b ys, H b = some (.tup ys) → H' b = some (.tup ys)) : KT H' kvs xs :=
  Paired.mapP r fun _ _ z => ⟨z.1, ht _ _ z.2.1, z.2.2⟩
section
variable {P : Program} {w : World} {H : Hp} {h : Heap} {a : Addr}
theorem zo6 {u : HO} (ok : HOk P w H h) (e : Rd H a u) : ObjOk P w H h a u := e.ok ok
theorem zk3 {kvs : List (Key × V)} (ok : HOk P w H h) (e : Rd H a (.dK kvs)) : kvs.length ≤ sizeLine ∧ (a == sysModules) = false ∧ ∃ vs, KV kvs vs ∧ h.DictOf (zbH P w) a vs :=
  show ObjOk P w H h a (.dK kvs) from zo6 ok e
theorem zjD {ks : List Key} (ok : HOk P w H h) (e : H a = some (.tup (ks.map kV))) : (tupleKind (zbH P w)).is h ks a := by
  obtain ⟨_, its, r, o, h1, h2, n, h3⟩ := (show ObjOk P w H h a (.tup (ks.map kV)) from ok a _ e)
  exact ⟨o, its.toArray, n, h1, h2, h3, by simpa using zgf r⟩
theorem zk4 {kvs : List (List Key × V)} (ok : HOk P w H h) (e : Rd H a (.dT kvs)) : kvs.length ≤ sizeLine ∧ (a == sysModules) = false ∧
    ∃ xs, KT H kvs xs ∧ h.DictOfH (tupleKind (zbH P w)) a xs := by
  obtain ⟨z, y, xs, r, o, es, ep, h1, h2, h3, h4, h5⟩ := (show ObjOk P w H h a (.dT kvs) from zo6 ok e)
  refine ⟨z, y, xs, r, o, es, ep, h1, h2, h3, h4, fun x hx => ?_, h5⟩
  have all : ∀ {l : List (List Key × V)} {m : List (List Key × Addr × Value)}, KT H l m → ∀ x ∈ m, (tupleKind (zbH P w)).is h x.1 x.2.1 := by
    intro l m q
    induction q with
    | nil => intro x hx; exact nomatch hx
    | @cons p q ps qs hq t ih =>
      intro x hx
      rcases List.mem_cons.mp hx with e | hx
      · subst e
        exact zjD ok (by rw [← hq.1]; exact hq.2.1)
      · exact ih x hx
  exact all r x hx
end
noncomputable def DGet (H : Hp) (a : Addr) (y : V) (r : Option V) : Prop :=
  (∃ kvs k, Rd H a (.dK kvs) ∧ y = kV k ∧ r = zeO kvs k) ∨ ∃ kvs k b, Rd H a (.dT kvs) ∧ y = .ref b ∧ H b = some (.tup (k.map kV)) ∧ r = zeO kvs k
noncomputable def DPut (H : Hp) (a : Addr) (y v : V) (H' : Hp) : Prop :=
  (∃ kvs k, H a = some (.dK kvs) ∧ y = kV k ∧ kvs.length < sizeLine ∧ H' = upd H a (.dK (zmz kvs k v))) ∨
  ∃ kvs k b, H a = some (.dT kvs) ∧ y = .ref b ∧ H b = some (.tup (k.map kV)) ∧ kvs.length < sizeLine ∧ H' = upd H a (.dT (zmz kvs k v))
theorem DGet.k {H : Hp} {a : Addr} {kvs : List (Key × V)} {k : Key} (e : H a = some (.dK kvs)) : DGet H a (kV k) (zeO kvs k) := .inl ⟨kvs, k, .inl e, rfl, rfl⟩
theorem DGet.t {H : Hp} {a b : Addr} {kvs : List (List Key × V)} {k : List Key} (e : H a = some (.dT kvs)) (eb : H b = some (.tup (k.map kV))) : DGet H a (.ref b) (zeO kvs k) := .inr ⟨kvs, k, b, .inl e, rfl, eb, rfl⟩
theorem DPut.k {H : Hp} {a : Addr} {kvs : List (Key × V)} {k : Key} {v : V} (e : H a = some (.dK kvs)) (hl : kvs.length < sizeLine) : DPut H a (kV k) v (upd H a (.dK (zmz kvs k v))) := .inl ⟨kvs, k, e, rfl, hl, rfl⟩
theorem DPut.t {H : Hp} {a b : Addr} {kvs : List (List Key × V)} {k : List Key} {v : V} (e : H a = some (.dT kvs)) (eb : H b = some (.tup (k.map kV))) (hl : kvs.length < sizeLine) :
    DPut H a (.ref b) v (upd H a (.dT (zmz kvs k v))) := .inr ⟨kvs, k, b, e, rfl, eb, hl, rfl⟩
section
variable {X : Cx} {pins : List (Addr × Obj)} {σ : St} {H : Hp} {s : Shared} {a : Addr} {y v : V} {u r : Value} {o : Option V} {A : Around} {E : Value → Shared → Prop}
theorem zjE {Q : Value → Shared → Prop} (hu : A.units + 1 < cLine) (I : Inv X pins σ H s) (g : DGet H a y (some v)) (ry : RelV y u) (h : ∀ w' s', Inv X pins σ H s' → RelV v w' → Q w' s') :
    wpAny (model X.prog X.w) A (getItem (.ref a) u) Q E s := by
  rcases g with ⟨kvs, k, e, ey, l⟩ | ⟨kvs, k, b, e, ey, eb, l⟩
  · subst ey
    obtain ⟨z, hd, vs, rel, dd⟩ := zk3 I.hok e
    obtain ⟨w', hw, rw'⟩ := RelO.some_of (v := v) (o := valueAt vs k) (by rw [l]; exact rel.val k)
    exact wpAny_getItem_of (znc ry) dd.mapOf hw (h w' _ (I.tok _) rw')
  · subst ey
    cases (show u = Value.ref b from ry)
    obtain ⟨z, hd, xs, rel, dd⟩ := zk4 I.hok e
    obtain ⟨w', hw, rw'⟩ := RelO.some_of (v := v) (o := (atKey xs k).map (·.2)) (by rw [l]; exact rel.val k)
    obtain ⟨p, hp, hp2⟩ := jo2.mp hw
    refine wpAny_getItem_heap (tupleKind_room_in1 hu) (zjD I.hok eb) dd hp ?_
    rw [hp2]
    exact h w' _ (I.tok _) rw'
theorem zjF {Q : Value → Shared → Prop} (hu : A.units + 1 < cLine) (I : Inv X pins σ H s) (g : DGet H a y o) (ry : RelV y u) (h : ∀ s', Inv X pins σ H s' → Q (.bool (!o.isSome)) s') :
    wpAny (model X.prog X.w) A (compareOp .NotIn u (.ref a)) Q E s := by
  rcases g with ⟨kvs, k, e, ey, l⟩ | ⟨kvs, k, b, e, ey, eb, l⟩
  · subst ey
    obtain ⟨z, hd, vs, rel, dd⟩ := zk3 I.hok e
    refine wpAny_notIn_of (znc ry) hd dd.mapOf ?_
    rw [← (rel.val k).isSome_eq, ← l]
    exact h _ (I.tok _)
  · subst ey
    cases (show u = Value.ref b from ry)
    obtain ⟨z, hd, xs, rel, dd⟩ := zk4 I.hok e
    refine wpAny_notIn_heap (tupleKind_room_in1 hu) (zjD I.hok eb) hd dd ?_
    have q := (rel.val k).isSome_eq
    rw [Option.isSome_map] at q
    rw [← q, ← l]
    exact h _ (I.tok _)
end
theorem zhi {X : Cx} {pins : List (Addr × Obj)} {σ : St} {H : Hp} {s : Shared} {a : Addr} {y : V} {o : Option V} (I : Inv X pins σ H s) (g : DGet H a y o) : s.TypeIs (.ref a) "dict" := by
  rcases g with ⟨kvs, k, e, _, _⟩ | ⟨kvs, k, b, e, _, _, _⟩
  · obtain ⟨_, _, vs, _, dd⟩ := zk3 I.hok e
    exact dd.typeIs
  · obtain ⟨_, _, xs, _, dd⟩ := zk4 I.hok e
    exact dd.typeIs
end L2
namespace Att
open PySem PySem.W PySem.Calls PyProof.Rows
theorem zd6 {P : Params} {h : Heap} : ∀ (ns : List Int) (vs : List Value), WellAll P h vs (ns.map WData.int) → IntsAre vs ns := by
  intro ns
  induction ns with
  | nil =>
    intro vs w
    rw [List.map_nil] at w
    cases w
    exact .nil
  | cons n ns ih =>
    intro vs w
    rw [List.map_cons] at w
    cases w with
    | cons a b =>
      cases a
      exact .cons _ _ (ih _ b)
theorem zjG {l : OpenLaw} {n : Nat} (hn : l.most = some n) {P : Params} {h : Heap} {args : List WData} {vals : List Value}
    (hpre : l.row.toRowW.claim.pre args = true) (hwl : WellAll P h vals args) :
    ∃ a vs ns, vals = [Value.ref a] ∧ args = [WData.list (ns.map WData.int)] ∧ h.get? a = some { cls := .type "list", data := .seq vs.toArray } ∧ IntsAre vs ns ∧ ns.length ≤ n := by
  have hsh : WShape.hasAll [] args [.list .int] = true := (pre_splitW hpre).1
  have hc : l.pre.holds [] { args := args } = true := (pre_splitW hpre).2
  obtain ⟨d, r, rfl, h1, h2⟩ := hasAllW_cons hsh
  obtain rfl := hasAllW_nil h2
  obtain ⟨xs, rfl, h3⟩ := hasW_list h1
  obtain ⟨ns, rfl⟩ := items_int h3
  have hlen : ns.length ≤ n := by
    unfold OpenLaw.pre at hc
    have h4 : (WTm.not (.lt (.lit (.int (n : Int))) (.len (.arg 0)))).holds [] { args := [.list (ns.map .int)] } = true := by
      have h4 := (holds_andW hc).1
      rw [hn] at h4
      exact h4
    have h5 := condW_of h4 (w_not (w_lt w_lit (w_len_list (w_arg rfl))))
    rw [List.length_map] at h5
    refine Nat.le_of_not_lt fun q => ?_
    have q' : (n : Int) < ((ns.length : Nat) : Int) := by omega
    first
      | (rw [decide_eq_true q'] at h5; exact absurd h5 (by decide))
      | (simp at h5; omega)
  cases hwl with
  | cons w1 w2 =>
    cases w2
    cases w1 with
    | list ho hall => exact ⟨_, _, ns, rfl, rfl, ho, zd6 ns _ hall, hlen⟩
theorem zjH (l : OpenLaw) (args : List WData) : l.row.toRowW.claim.post args (.bool true) args = true :=
  postW_of (r := l.row.toRowW) (X := (true == true))
    (show WShape.has [] (.bool true) .bool = true by first | rfl | decide | simp [WShape.has, WShape.arms, WShape.armsAll])
    (show (WTm.eq .res (.lit (.bool true))).value [] { args := args, res := some (.bool true), after := args } = some (.bool (true == true)) from w_eq_bool (w_res rfl) w_lit) rfl
theorem attach_call {l : OpenLaw} {n : Nat} {q : Program} {loose : List Str} {XP : (Str → Option Value) → Heap → Prop} {YP : World → Heap → Prop} {d : DefRec}
    (hn : l.most = some n) (hdf : d.params.defaults = [])
    (call : ∀ (w : World) (s₀ s₁ : Shared) (mg mb : Str → Option Value) (fa : Addr) (o : Obj) (pm cd doc : Value) (a : Addr) (vs : List Value) (ns : List Int),
      Ground q loose [] XP w s₀ mg mb s₁.heap → YP w s₁.heap →
      s₁.heap.get? fa = some o → o.data = .func (docDef d.name d.params d.body d.scope pm cd doc) → s₁.heap.CodeRec cd d.name → mg d.name = some (.ref fa) →
      s₁.heap.get? a = some { cls := .type "list", data := .seq vs.toArray } → IntsAre vs ns → ns.length ≤ n → s₁.gens = #[] →
      codeAny (model l.prog w) callerA (.call (.ref fa) ⟨[.ref a], []⟩) (fun r s' => r = .ok (.ret (.bool true)) ∧ OldK s₁.heap s'.heap ∧ s'.os = s₁.os ∧ AllBare s'.gens) s₁) :
    WalkO q loose XP YP l.row.toRowW d [] (fun f vs => PySem.call f vs) := by
  intro w s₀ s₁ mg mb G Y fa o pm cd doc dV kV ho hd hcd hD hmg hg args vals as hpre hlay hrd hwl hlo
  obtain rfl : dV = .none := Dflts.none hD hdf
  obtain rfl : kV = .none := Dflts.noKw hD
  obtain ⟨a, vs, ns, rfl, rfl, hobj, hints, hlen⟩ := zjG hn hpre hwl
  refine enter_call (codeAny_mono (call w s₀ s₁ mg mb fa o pm cd doc a vs ns G Y ho (fd_plain hd) hcd hmg hobj hints hlen hg) fun r s' hq => ?_)
  obtain ⟨rfl, h2, h3, h4⟩ := hq
  exact ⟨.inl ⟨.bool true, .bool true, [], rfl, fun _ => rfl, .bool true, zjH l _, fun _ => ⟨List.Pairwise.nil, fun _ hm => (nomatch hm)⟩⟩, h2, h3, h4⟩
section
variable {prog : Program} {w : World} {A : Around} {E : Value → Shared → Prop} {s : Shared} {K : Frag}
noncomputable def zuE (h : Heap) (L d : Addr) : List (Addr × Obj) := (List.range h.objs.size).filterMap fun a => if a = L ∨ a = d then none else (h.get? a).map fun o => (a, o)
end
end Att
namespace L2
open PySem PySem.Spec PyProof.Rows
theorem zgg : ∀ {vs : List Value} {ns : List Int}, IntsAre vs ns → Vals (ns.map V.int) vs
  | _, _, .nil => .nil
  | _, _, .cons n t h => .cons ⟨t, rfl⟩ (zgg h)
noncomputable def zq4 (H : Hp) : Prop := ∀ b, H b = none ∨ ∃ o xs, H b = some (.frz o (.lst xs))
theorem zk5 {P : Program} {w : World} {K : PySem.W.Frag} {mg mb : Str → Option Value} {CX : CXT} {k : Nat} {fa a : Addr} {fd : FuncData} {x : Str} {sp : Sp} {s₁ : Shared} {vs : List Value} {ns : List Int}
    (KX : K.In s₁.heap) (hns : s₁.heap.Ns mainGlobals mg) (hb : s₁.heap.Ns builtinsNs mb) (hbb : ∀ x : Str, x ≠ "__name__" → mb x = bootBuiltins x) (hlim : s₁.heap.NoLimit) (hg : s₁.gens = #[])
    (ha : s₁.heap.get? a = some { cls := .type "list", data := .seq vs.toArray }) (hi : IntsAre vs ns) (hl : ns.length ≤ sizeLine) (hr : Room k callerA)
    (F : ∀ base : Heap, K.In base → base.Ns mainGlobals mg → FnOk P w K mg base CX k fa fd [x] sp) (hbind : ∀ (s : Shared) (u : Value), BindsTo s fd ⟨[u], []⟩ [(x, u)])
    (hsp : ∀ H : Hp, zq4 H → SqL K H a (ns.map V.int) → sp [.ref a] H (fun v _ => v = .bl true) fun _ _ _ => False)
    (hCX : ∀ H e s', CX [] H s₁ (fun _ _ _ => False) e s' → False) :
    codeAny (model P w) callerA (.call (.ref fa) ⟨[.ref a], []⟩) (fun r s' => r = .ok (.ret (.bool true)) ∧ OldK s₁.heap s'.heap ∧ s'.os = s₁.os ∧ AllBare s'.gens) s₁ := by
  have rv := zgg hi
  have lenV := hi.length
  have core : ∀ H : Hp, zq4 H → SqL K H a (ns.map V.int) → HOk P w H s₁.heap → (∀ b, H b ≠ none → b = a) → (H a ≠ none → K.lookup a = none) →
      codeAny (model P w) callerA (.call (.ref fa) ⟨[.ref a], []⟩) (fun r s' => r = .ok (.ret (.bool true)) ∧ OldK s₁.heap s'.heap ∧ s'.os = s₁.os ∧ AllBare s'.gens) s₁ := by
    intro H hO hS hok hA hK
    have base_of : ∀ {b : Addr} {o : Obj}, s₁.heap.get? b = some o → H b = none → (zkT s₁.heap H).get? b = some o := fun e n => zkU e n
    have noA : ∀ {b : Addr} {o : Obj} {es : Array DictEntry} {ep : Nat}, s₁.heap.get? b = some o → o.data = .dict es ep → H b = none := fun {b o es ep} e d => by
      cases q : H b with
      | none => rfl
      | some u =>
        have e' : b = a := hA b (by rw [q]; simp)
        subst e'
        rw [ha] at e; cases e
        have d' : Data.seq vs.toArray _ = Data.dict es ep := d
        cases d'
    have nsK : ∀ {b : Addr} {m : Str → Option Value}, s₁.heap.Ns b m → (zkT s₁.heap H).Ns b m := fun {b m} ⟨o, es, ep, e, d, r⟩ => ⟨o, es, ep, base_of e (noA e d), d, r⟩
    have hKb : K.In (zkT s₁.heap H) := fun b o e => base_of (KX b o e) (by
      cases q : H b with
      | none => rfl
      | some u =>
        have e' : b = a := hA b (by rw [q]; simp)
        subst e'
        rw [hK (by rw [q]; simp)] at e; cases e)
    have hM : Mod K mg (zkT s₁.heap H) := ⟨hKb, nsK hns, ⟨mb, nsK hb, hbb⟩, let ⟨mc, h1, h2⟩ := hlim; ⟨mc, nsK h1, h2⟩⟩
    have e0 : Env0 P w K mg (zkT s₁.heap H) callerA [] s₁ H := ⟨rfl, hM, fun b o e => zmW e, Nat.le_of_eq (zjn _ _), trivial, fun b hb => absurd (show b ∈ ([] : List Addr) from hb) (by simp), hok, .of_eq hg⟩
    refine codeAny_mono ((F _ hKb (nsK hns)).run callerA [] s₁ H ⟨[.ref a], []⟩ [.ref a] [.ref a] _ _ hr e0 (hbind s₁ (.ref a)) (.cons rfl .nil) (hsp H hO hS)) fun r s' h => ?_
    cases r with
    | error e => exact (hCX H e s' h).elim
    | ok fl =>
      cases fl with
      | next => exact False.elim h
      | brk => exact False.elim h
      | cont => exact False.elim h
      | ret u =>
        obtain ⟨v, H', os, bare, un, hok', r', q⟩ := h
        have q' : v = .bl true := q
        subst q'
        obtain rfl : u = Value.bool true := r'
        refine ⟨rfl, OldK.of_keep fun b o e => ?_, os, bare⟩
        cases q : H b with
        | none => exact un.keep b o e q (by intro z; exact absurd (show b ∈ ([] : List Addr) from z) (by simp)) (by simp)
        | some u =>
          rcases hO b with z | ⟨ob, xs, z⟩
          · rw [q] at z; cases z
          · have z2 := un.frzs b ob _ z
            obtain ⟨e1, _⟩ := hok b _ z
            obtain ⟨e2, _⟩ := hok' b _ z2
            rw [e] at e1; cases e1
            exact e2
  cases hk : K.lookup a with
  | some o =>
    have e := KX a o hk
    rw [ha] at e
    cases e
    refine core (fun _ => none) (fun _ => .inl rfl) (.inr ⟨_, vs.toArray, _, hk, rfl, rfl, rfl, by rw [List.size_toArray, lenV]; exact hl, by simpa using rv⟩) (fun b u z => by have z' : (none : Option HO) = some u := z; cases z') (fun b z => absurd rfl z) fun z => absurd rfl z
  | none =>
    refine core (fun b => if b = a then some (.frz { cls := .type "list", data := .seq vs.toArray } (.lst (ns.map V.int))) else none) (fun b => ?_) (.inl (.inr ⟨{ cls := .type "list", data := .seq vs.toArray }, if_pos rfl⟩)) (fun b u z => ?_) (fun b z => ?_) fun _ => hk
    · by_cases hb : b = a
      · exact .inr ⟨_, _, if_pos hb⟩
      · exact .inl (if_neg hb)
    · by_cases hb : b = a
      · have z' := (if_pos hb).symm.trans z
        cases z'
        subst hb
        exact ⟨ha, by rw [List.length_map]; exact hl, vs, _, rv, ha⟩
      · have z' := (if_neg hb).symm.trans z
        cases z'
    · by_cases hb : b = a
      · exact hb
      · exact absurd (if_neg hb) z
end L2
namespace L2
open PySem PySem.Spec PyProof.Rows
noncomputable abbrev KOf {K : PySem.W.Frag} {h : Heap} (_ : K.In h) : PySem.W.Frag := K
theorem znd {l : PySem.W.OpenLaw} {n k : Nat} {q : Program} {loose : List Str} {XP : (Str → Option Value) → Heap → Prop} {YP : World → Heap → Prop} {d : DefRec} {K : Params → PySem.W.Frag} {CX : World → CXT} {sp : World → Sp} {x : Str}
    (hn : l.most = some n) (hn2 : n ≤ sizeLine) (hdf : d.params.defaults = []) (hr : Room k callerA)
    (hY : ∀ (w : World) (h : Heap), YP w h → (K w.params).In h)
    (F : ∀ (w : World) (mg : Str → Option Value) (fa : Addr) (h : Heap), (K w.params).In h → h.Ns mainGlobals mg → mg d.name = some (.ref fa) →
      ∃ fd : FuncData, (∀ (s : Shared) (u : Value), BindsTo s fd ⟨[u], []⟩ [(x, u)]) ∧
        ∀ base : Heap, (K w.params).In base → base.Ns mainGlobals mg → FnOk l.prog w (K w.params) mg base (CX w) k fa fd [x] (sp w))
    (hsp : ∀ (w : World) (H : Hp) (a : Addr) (ns : List Int), ns.length ≤ n → zq4 H → SqL (K w.params) H a (ns.map V.int) → sp w [.ref a] H (fun v _ => v = .bl true) fun _ _ _ => False)
    (hCX : ∀ (w : World) (H : Hp) (s : Shared) (e : Value) (s' : Shared), CX w [] H s (fun _ _ _ => False) e s' → False) :
    PySem.W.WalkO q loose XP YP l.row.toRowW d [] (fun f vs => PySem.call f vs) := by
  refine Att.attach_call hn hdf fun w s₀ s₁ mg mb fa o pm cd doc a vs ns G Y ho hd hcd hmg hobj hints hlen hg => ?_
  have KX := hY w _ Y
  obtain ⟨fd, hb, hF⟩ := F w mg fa _ KX G.T.g hmg
  exact zk5 KX G.T.g G.T.b G.T.builtins G.T.nolimit hg hobj hints (Nat.le_trans hlen hn2) hr hF hb (fun H hO hS => hsp w H a ns hlen hO hS) fun H e s' => hCX w H s₁ e s'
theorem zk6 {l : PySem.W.OpenLaw} {n k : Nat} {q : Program} {loose : List Str} {XP : (Str → Option Value) → Heap → Prop} {YP : World → Heap → Prop} {d : DefRec} {K : Params → PySem.W.Frag} {CX : CXT} {sp : PySem.W.Frag → Sp} {x : Str}
    (hn : l.most = some n) (hn2 : n ≤ sizeLine) (hdf : d.params.defaults = []) (hr : Room k callerA)
    (hY : ∀ (w : World) (h : Heap), YP w h → (K w.params).In h)
    (F : ∀ (w : World) (mg : Str → Option Value) (fa : Addr) (h : Heap), (K w.params).In h → h.Ns mainGlobals mg → mg d.name = some (.ref fa) →
      ∃ fd : FuncData, (∀ (s : Shared) (u : Value), BindsTo s fd ⟨[u], []⟩ [(x, u)]) ∧
        ∀ base : Heap, (K w.params).In base → base.Ns mainGlobals mg → FnOk l.prog w (K w.params) mg base CX k fa fd [x] (sp (K w.params)))
    (hsp : ∀ (K : PySem.W.Frag) (H : Hp) (a : Addr) (ns : List Int), ns.length ≤ n → zq4 H → SqL K H a (ns.map V.int) → sp K [.ref a] H (fun v _ => v = .bl true) fun _ _ _ => False)
    (hCX : ∀ (H : Hp) (s : Shared) (e : Value) (s' : Shared), CX [] H s (fun _ _ _ => False) e s' → False) :
    PySem.W.WalkO q loose XP YP l.row.toRowW d [] (fun f vs => PySem.call f vs) :=
  znd (K := K) (CX := fun _ => CX) (sp := fun w => sp (K w.params)) hn hn2 hdf hr hY F (fun w H a ns h1 h2 h3 => hsp (K w.params) H a ns h1 h2 h3) fun _ H s e s' => hCX H s e s'
end L2
namespace L2
open PySem PySem.Spec PyProof.Rows
noncomputable def zam (s : Stmt) : Arguments := match s with
  | .FunctionDef _ a _ _ _ _ _ _ _ _ => a
  | _ => { posonlyargs := [], args := [], vararg := none, kwonlyargs := [], kw_defaults := [], kwarg := none, defaults := [] }
noncomputable def zae (s : Stmt) : List Stmt := match s with
  | .FunctionDef _ _ b _ _ _ _ _ _ _ => b
  | _ => []
noncomputable def zaa (s : Stmt) : Scope := match s with
  | .FunctionDef _ _ _ _ _ _ sc _ _ _ => sc
  | _ => { kind := .function, names := [], isGenerator := false, isCoroutine := false }
noncomputable abbrev CX0 : CXT := fun _ _ _ _ _ _ => False
noncomputable abbrev E0 : XK := fun _ _ _ => False
theorem zsR {X : Cx} : zd5 CX0 X E0 := fun _ _ _ _ _ _ _ h => h.elim
structure Fun (K : PySem.W.Frag) (x qual : Str) (st : Stmt) (f : Addr) (fd : FuncData) : Prop where
  ex : ∃ (oc : Value) (od : Option Addr) (kV doc pm : Value) (an : Option Addr) (cdv ct : Value) (osl : Array (Option Value)),
    fd = PySem.W.fnOf x qual (zam st) (zae st) (zaa st) .none kV doc pm an cdv ct ∧ K.lookup f = some ⟨oc, od, .func fd, osl⟩ ∧ PySem.W.codeIn K cdv qual = true
  kp : PySem.W.keepIn K (.ref f) = true
section
variable {P : Program} {w : World} {K : PySem.W.Frag} {mg : Str → Option Value} {base : Heap}
theorem Fun.ok {x qual : Str} {st : Stmt} {f : Addr} {fd : FuncData} {N ps : List Str} {k : Nat} {sp : Sp} (F : Fun K x qual st f fd) (S : FnScope N ps (zaa st)) (len : ∀ vs H Q E, sp vs H Q E → vs.length = ps.length)
    (hbody : ∀ (cdv : Value) (A : Around) (outer : List Env) (s : Shared) (H : Hp) (vs : List V) (Q : VK) (E : XK), Room k (A.deeper (envOfC qual (zaa st) s.heap.objs.size f cdv)) → sp vs H Q E →
      ∃ t, PSs (zbM CX0 P w K mg base N qual (zaa st) f cdv A outer s H E).nox (zae st) t ∧ t { nx := fun _ H' => Q .non H', rt := Q } (zch N vs) H) : FnOk P w K mg base CX0 (k + 1) f fd ps sp := by
  obtain ⟨oc, od, kV, doc, pm, an, cdv, ct, osl, rfl, lk, hcd⟩ := F.ex
  refine zo1 lk hcd S len fun A outer s H vs Q E hr hsp => ?_
  obtain ⟨t, h, q⟩ := hbody cdv A outer s H vs Q E hr hsp
  exact ⟨t, h.nox, q⟩
theorem Fun.binds {x qual : Str} {st : Stmt} {f : Addr} {fd : FuncData} {ps : List Str} (F : Fun K x qual st f fd)
    (h : ∀ (kV doc pm : Value) (an : Option Addr) (cdv ct : Value) (us : List Value), us.length = ps.length → bindArgs (PySem.W.fnOf x qual (zam st) (zae st) (zaa st) .none kV doc pm an cdv ct) ⟨us, []⟩ = pure (ps.zip us)) : Binds K fd ps [] := by
  obtain ⟨oc, od, kV, doc, pm, an, cdv, ct, osl, rfl, lk, hcd⟩ := F.ex
  exact .all (h kV doc pm an cdv ct)
theorem zau {x qual : Str} {st : Stmt} {f : Addr} {oc : Value} {od an : Option Addr} {osl : Array (Option Value)} {kV doc pm cdv ct : Value} (l : K.lookup f = some ⟨oc, od, .func (PySem.W.fnOf x qual (zam st) (zae st) (zaa st) .none kV doc pm an cdv ct), osl⟩)
    (c : PySem.W.codeIn K cdv qual = true) (k : PySem.W.keepIn K (.ref f) = true) : Fun K x qual st f (PySem.W.fnOf x qual (zam st) (zae st) (zaa st) .none kV doc pm an cdv ct) := ⟨⟨oc, od, kV, doc, pm, an, cdv, ct, osl, rfl, l, c⟩, k⟩
end
theorem zgh {n : Nat} (h : n ≤ 1000) : n < sizeLine := Nat.lt_of_le_of_lt h (by decide)
noncomputable def Same (H H' : Hp) : Prop := ∀ b o, H b = some o → H' b = some o
theorem Same.refl (H : Hp) : Same H H := fun _ _ h => h
theorem Same.trans {H H1 H2 : Hp} (a : Same H H1) (b : Same H1 H2) : Same H H2 := fun c o h => b c o (a c o h)
theorem Same.free {H H' : Hp} (e : Same H H') {l : Addr} (h : H' l = Option.none) : H l = Option.none := by
  cases q : H l with
  | none => rfl
  | some o =>
    rw [e l o q] at h
    cases h
theorem Same.seq {K : PySem.W.Frag} {H H' : Hp} {a : Addr} {xs : List V} (e : Same H H') (h : SqL K H a xs) : SqL K H' a xs := by
  rcases h with (h | ⟨o, h⟩) | h
  · exact .inl (.inl (e _ _ h))
  · exact .inl (.inr ⟨o, e _ _ h⟩)
  · exact .inr h
end L2
namespace L2.LW
open PySem
set_option genSizeOf false
inductive D where
  | int (i : Int) | bl (b : Bool) | non | str (x : Str) | tup (l : List D) | lst (l : List D)
  | dct (t : Bool) (ks vs : List D)
mutual
noncomputable def eqD : D → D → Bool
  | .int a, .int b => a == b
  | .bl a, .bl b => a == b
  | .int a, .bl b => a == (if b then 1 else 0)
  | .bl a, .int b => (if a then 1 else 0) == b
  | .non, .non => true
  | .str a, .str b => a == b
  | .tup xs, .tup ys => zfe xs ys
  | .lst xs, .lst ys => zfe xs ys
  | _, _ => false
noncomputable def zfe : List D → List D → Bool
  | [], [] => true
  | x :: xs, y :: ys => eqD x y && zfe xs ys
  | _, _ => false
end
mutual
noncomputable def plain : D → Bool
  | .lst _ => false
  | .dct _ _ _ => false
  | .tup l => zbd l
  | _ => true
noncomputable def zbd : List D → Bool
  | [] => true
  | x :: xs => plain x && zbd xs
end
inductive SV where
  | val (d : D) | obj (o : Bool) (d : D) | io (d : D)
noncomputable abbrev SV.lis (o : Bool) (ds : List D) : SV := .obj o (.lst ds)
noncomputable def toD : SV → Option D
  | .val d => some d
  | .obj true d => some d
  | _ => none
noncomputable def zby : SV → D
  | .val d => d
  | .obj _ d => d
  | .io d => d
noncomputable def SV.lent : SV → Bool
  | .val _ => false
  | .obj true _ => false
  | _ => true
noncomputable def zbU : D → Bool
  | .lst ds => zbd ds
  | .dct _ _ vs => zbd vs
  | d => plain d
noncomputable def SV.plain : SV → Bool
  | .val d => LW.plain d
  | .obj _ d => zbU d
  | .io _ => false
noncomputable abbrev Env := List (Option SV)
inductive Ty where
  | bool | int | str | list | tuple
  deriving DecidableEq
inductive Prim where
  | add | sub | mul | fdiv | mod | neg | eq | ne | lt | le | gt | ge | isN | notN | inn | nin | idx | len | abs | min2 | max2 | sorted | skeys | cutT | cutF | addT | mulT | addS | join0 | splitN | eqS | neS | toList | toTup | all | inst (t : Ty) | cutTo | maxL | minL | sumL | intOf
set_option genInjectivity false
mutual
inductive E where
  | int (i : Int) | bl (b : Bool) | non | str (x : Str)
  | var (i : Nat)
  | prim (p : Prim) (es : Es)
  | tup (es : Es) | lst (es : Es)
  | and (a b : E) | or (a b : E) | not (a : E)
  | chain (p q : Prim) (a b c : E)
  | ite (c a b : E)
  | call (f : Nat) (es : Es)
  | comp (rng : Bool) (src : Es) (cond elt : E)
  | dnew (t : Bool) | done (t : Bool) (k v : E)
inductive Es where
  | nil | cons (e : E) (es : Es)
end
set_option genInjectivity true
noncomputable def zcd : Ty → D → Bool
  | .bool, .bl _ => true
  | .int, .int _ => true
  | .int, .bl _ => true
  | .str, .str _ => true
  | .list, .lst _ => true
  | .tuple, .tup _ => true
  | _, _ => false
noncomputable def ints? : List D → Option (List Int)
  | [] => some []
  | .int i :: r => (ints? r).map (i :: ·)
  | _ => none
noncomputable def lexLt : List Int → List Int → Bool
  | _, [] => false
  | [], _ :: _ => true
  | x :: xs, y :: ys => if x = y then lexLt xs ys else decide (x < y)
noncomputable def ixN (n : Nat) (i : Int) : Option Nat := if 0 ≤ i then (if i < n then some i.toNat else none) else if -(n : Int) ≤ i then some (i + n).toNat else none
noncomputable def atI {α : Type} (xs : List α) (i : Int) : Option α := (ixN xs.length i).bind fun j => xs[j]?
noncomputable def bools? : List D → Option (List Bool)
  | [] => some []
  | .bl i :: r => (bools? r).map (i :: ·)
  | _ => none
noncomputable def line : Nat := 16777216
noncomputable def zhj : D → Option (List D)
  | .tup l => some l
  | .lst l => some l
  | _ => none
noncomputable def tups? : List D → Option (List (List Int))
  | [] => some []
  | .tup l :: r => (ints? l).bind fun x => (tups? r).map (x :: ·)
  | _ => none
noncomputable def zuF (x : List Int) : List (List Int) → List (List Int)
  | [] => [x]
  | y :: r => if lexLt x y then x :: y :: r else y :: zuF x r
noncomputable def zne : List (List Int) → List (List Int)
  | [] => []
  | x :: r => zuF x (zne r)
noncomputable def zsS (l : List Int) : List Int := l.mergeSort (fun a b => decide (a ≤ b))
noncomputable def zbz : Nat → D → Bool
  | _, .int _ => true
  | _, .bl _ => true
  | _, .non => true
  | _, .str _ => false
  | 0, _ => false
  | n + 1, .tup l => l.all (zbz n)
  | n + 1, .lst l => l.all (zbz n)
  | _ + 1, .dct _ _ _ => false
noncomputable def zce : Bool → D → Bool
  | false, .int _ => true
  | true, .tup l => (ints? l).isSome
  | _, _ => false
noncomputable def kix (ks : List D) (k : D) : Option Nat := ks.findIdx? fun x => eqD x k
noncomputable def zo7 (ks vs : List D) (k : D) : Option D := (kix ks k).bind fun i => vs[i]?
noncomputable def zol (t : Bool) (ks vs : List D) (k v : D) : D := if (kix ks k).isSome then .dct t ks (List.zipWith (fun k' v' => if eqD k' k then v else v') ks vs) else .dct t (ks ++ [k]) (vs ++ [v])
noncomputable def zbR (r : Int) : Option SV := some (.val (.int r))
noncomputable def zd7 (r : Bool) : Option SV := some (.val (.bl r))
noncomputable def zq5 : List D → Option SV
  | [.int a, .int b] => zbR (a + b)
  | [.lst a, .lst b] => if a.length + b.length ≤ line then some (SV.obj true (.lst (a ++ b))) else none
  | _ => none
noncomputable def zsT : List D → Option SV
  | [.int a, .int b] => zbR (a - b)
  | _ => none
noncomputable def zq6 : List D → Option SV
  | [.int a, .int b] => if (-(2 ^ 64) < a ∧ a < 2 ^ 64) ∨ (-(2 ^ 64) < b ∧ b < 2 ^ 64) then zbR (a * b) else none
  | _ => none
noncomputable def zk7 : List D → Option SV
  | [.int a, .int b] => if 0 < b ∧ b < 1073741824 then zbR (a / b) else none
  | _ => none
noncomputable def zq7 : List D → Option SV
  | [.int a, .int b] => if 0 < b then zbR (a % b) else none
  | _ => none
noncomputable def zsU : List D → Option SV
  | [.int a] => zbR (-a)
  | _ => none
noncomputable def pEq : List D → Option SV
  | [a, b] => if zbz 8 a && zbz 8 b then zd7 (eqD a b) else none
  | _ => none
noncomputable def pNe : List D → Option SV
  | [a, b] => if zbz 8 a && zbz 8 b then zd7 (!eqD a b) else none
  | _ => none
noncomputable def pLt : List D → Option SV
  | [.int a, .int b] => zd7 (decide (a < b))
  | [.tup a, .tup b] => (ints? a).bind fun x => (ints? b).bind fun y => zd7 (lexLt x y)
  | _ => none
noncomputable def pLe : List D → Option SV
  | [.int a, .int b] => zd7 (decide (a ≤ b))
  | _ => none
noncomputable def pGt : List D → Option SV
  | [.int a, .int b] => zd7 (decide (b < a))
  | _ => none
noncomputable def pGe : List D → Option SV
  | [.int a, .int b] => zd7 (decide (b ≤ a))
  | _ => none
noncomputable def zgi : D → Bool
  | .non => true
  | _ => false
noncomputable def zuG : List D → Option SV
  | [d] => zd7 (zgi d)
  | _ => none
noncomputable def zo8 : List D → Option SV
  | [d] => zd7 (!zgi d)
  | _ => none
noncomputable def pIn : List D → Option SV
  | [x, .dct t ks _] => if zce t x then zd7 (kix ks x).isSome else none
  | [x, .tup l] => if zbz 8 x && l.all (zbz 8) then zd7 (l.any fun y => eqD y x) else none
  | [x, .lst l] => if zbz 8 x && l.all (zbz 8) then zd7 (l.any fun y => eqD y x) else none
  | _ => none
noncomputable def zom : List D → Option SV
  | [x, .dct t ks _] => if zce t x then zd7 (!(kix ks x).isSome) else none
  | [x, .tup l] => if zbz 8 x && l.all (zbz 8) then zd7 (!l.any fun y => eqD y x) else none
  | [x, .lst l] => if zbz 8 x && l.all (zbz 8) then zd7 (!l.any fun y => eqD y x) else none
  | _ => none
noncomputable def zsV : List D → Option SV
  | [.dct t ks vs, k] => if zce t k then (zo7 ks vs k).map .val else none
  | [.tup l, .int i] => (atI l i).map .val
  | [.lst l, .int i] => (atI l i).map .val
  | _ => none
noncomputable def zsW : List D → Option SV
  | [.tup l] => zbR l.length
  | [.lst l] => zbR l.length
  | _ => none
noncomputable def zvB : List D → Option SV
  | [.int i] => zbR (if i < 0 then -i else i)
  | _ => none
noncomputable def zsX : List D → Option SV
  | [.int i, .int j] => zbR (if j < i then j else i)
  | _ => none
noncomputable def zsY : List D → Option SV
  | [.int i, .int j] => zbR (if j > i then j else i)
  | _ => none
noncomputable def znf (l : List D) : Option SV := match ints? l with
  | some ns => if ns.length < 64 then some (.obj true (.lst ((zsS ns).map .int))) else none
  | none => (tups? l).bind fun ks => if ks.length < 64 ∧ ks.Nodup ∧ ks.all (fun k => !k.isEmpty) = true then some (.obj true (.lst ((zne ks).map fun k => .tup (k.map .int)))) else none
noncomputable def zng : List D → Option SV
  | [.lst l] => znf l
  | _ => none
noncomputable def znh (l : List D) : Option SV := (tups? l).bind fun ks => if ks.length < 64 ∧ ks.Nodup ∧ ks.all (fun k => !k.isEmpty) = true then some (.obj true (.lst ((zne ks).map fun k => .tup (k.map .int)))) else none
noncomputable def zo9 : List D → Option SV
  | [.dct true ks _] => znh ks
  | _ => none
noncomputable def zsZ : List D → Option SV
  | [.tup l, .int k] => if 0 ≤ k ∧ k < l.length then some (.val (.tup (l.take k.toNat))) else none
  | _ => none
noncomputable def zs0 : List D → Option SV
  | [.tup l, .int k] => if 0 < k ∧ 0 < l.length then some (.val (.tup (l.drop k.toNat))) else none
  | _ => none
noncomputable def zjI : List D → Option SV
  | [.tup a, .tup b] => if a.length + b.length ≤ 10000000 then some (.val (.tup (a ++ b))) else none
  | _ => none
noncomputable def zk8 : List D → Option SV
  | [.tup l, .int k] => if k = 2 ∧ l.length ≤ 1000 ∧ l ≠ [] then some (.val (.tup (l ++ l))) else none
  | _ => none
noncomputable def zs1 : List D → Option SV
  | [.str a, .str b] => if a.length + b.length ≤ 10000000 then some (.val (.str (a ++ b))) else none
  | _ => none
noncomputable def strs? : List D → Option (List Str)
  | [] => some []
  | .str x :: r => (strs? r).map (x :: ·)
  | _ => none
noncomputable def zs2 (ys : List Str) : Str := ⟨(ys.flatMap fun y => y.cps.toList).toArray⟩
noncomputable def zpa : List D → Option SV
  | [.lst l] => (strs? l).bind fun ys => if (ys.map (·.length)).sum ≤ 10000000 then some (.val (.str (zs2 ys))) else none
  | _ => none
noncomputable def zs3 (c : Nat) : List Nat → List (List Nat)
  | [] => [[]]
  | a :: r => if a = c then [] :: zs3 c r else match zs3 c r with
    | p :: ps => (a :: p) :: ps
    | [] => [[a]]
noncomputable def zpb (x : Str) : List Str := (zs3 10 x.cps.toList).map fun l => ⟨l.toArray⟩
noncomputable def zni : List D → Option SV
  | [.str x] => if x.length ≤ 10000000 then some (.obj true (.lst ((zpb x).map D.str))) else none
  | _ => none
noncomputable def zpc (x : Str) : List D := x.cps.toList.map fun c => D.str ⟨#[c]⟩
noncomputable def zuH : List D → Option SV
  | [.str a, .str b] => some (.val (.bl (decide (a = b))))
  | _ => none
noncomputable def zuI : List D → Option SV
  | [.str a, .str b] => some (.val (.bl (!decide (a = b))))
  | _ => none
noncomputable def zhk : List D → Option SV
  | [.tup l] => some (SV.obj true (.lst l))
  | [.lst l] => some (SV.obj true (.lst l))
  | _ => none
noncomputable def zjJ : List D → Option SV
  | [.tup l] => some (.val (.tup l))
  | [.lst l] => some (.val (.tup l))
  | _ => none
noncomputable def zq8 : List D → Option SV
  | [.lst l] => (bools? l).bind fun bs => zd7 (bs.all id)
  | _ => none
noncomputable def zpd (t : Ty) : List D → Option SV
  | [d] => zd7 (zcd t d)
  | _ => none
noncomputable def zhP : List D → Option SV
  | [.lst l, .int k] => if 0 ≤ k then some (SV.obj true (.lst (l.take k.toNat))) else none
  | _ => none
noncomputable def zs4 : List D → Option SV
  | [.lst l] => (ints? l).bind fun ns => match ns with
    | [] => none
    | n :: r => zbR (r.foldl max n)
  | _ => none
noncomputable def zs5 : List D → Option SV
  | [.lst l] => (ints? l).bind fun ns => match ns with
    | [] => none
    | n :: r => zbR (r.foldl min n)
  | _ => none
noncomputable def zs6 : List D → Option SV
  | [.lst l] => (ints? l).bind fun ns => zbR ns.sum
  | [.tup l] => (ints? l).bind fun ns => zbR ns.sum
  | _ => none
noncomputable def zpe : List D → Option SV
  | [.int i] => zbR i
  | [.bl b] => zbR (if b then 1 else 0)
  | _ => none
noncomputable def zao : Prim → List D → Option SV
  | .add => zq5 | .sub => zsT | .mul => zq6 | .fdiv => zk7 | .mod => zq7 | .neg => zsU | .eq => pEq | .ne => pNe | .lt => pLt | .le => pLe | .gt => pGt | .ge => pGe
  | .isN => zuG | .notN => zo8 | .inn => pIn | .nin => zom | .idx => zsV | .len => zsW | .abs => zvB | .min2 => zsX | .max2 => zsY
  | .sorted => zng | .skeys => zo9 | .cutT => zsZ | .cutF => zs0 | .addT => zjI | .mulT => zk8 | .addS => zs1 | .join0 => zpa | .splitN => zni | .eqS => zuH | .neS => zuI | .toList => zhk | .toTup => zjJ | .all => zq8 | .inst t => zpd t | .cutTo => zhP | .maxL => zs4 | .minL => zs5 | .sumL => zs6 | .intOf => zpe
noncomputable def zbp : SV → Option Bool
  | .val (.bl b) => some b
  | .val (.int i) => some (i != 0)
  | .val .non => some false
  | .val (.tup l) => some (!l.isEmpty)
  | .val (.lst l) => some (!l.isEmpty)
  | .obj _ (.lst l) => some (!l.isEmpty)
  | _ => none
noncomputable def look (ρ : Env) (i : Nat) : Option SV := match ρ[i]? with
  | some (some (.val d)) => some (.val d)
  | some (some (.obj _ d)) => some (.obj false d)
  | some (some (.io d)) => some (.obj false d)
  | _ => none
noncomputable def free (ρ : Env) (i : Nat) : Bool := match ρ[i]? with
  | some (some (.io _)) => false
  | _ => true
noncomputable def SV.cell : SV → Option D
  | .obj true d => some d
  | .io d => some d
  | _ => none
noncomputable def SV.put : SV → D → SV
  | .io _, d => .io d
  | _, d => .obj true d
noncomputable def inR (j : Int) : Prop := -(2 ^ 62) ≤ j ∧ j < 2 ^ 62
noncomputable instance (j : Int) : Decidable (inR j) := by unfold inR; exact inferInstance
noncomputable def zaN : Bool → List SV → Option (List D)
  | false, [r] => zhj (zby r)
  | true, [.val (.int n)] => if inR n then some ((List.range n.toNat).map fun (k : Nat) => D.int (0 + (k : Int))) else none
  | true, [.val (.int a), .val (.int b)] => if inR a ∧ inR b then some ((List.range (b - a).toNat).map fun (k : Nat) => D.int (a + (k : Int))) else none
  | _, _ => none
noncomputable def zcP (test : D → Option Bool) (elt : D → Option SV) : List D → Option (List D)
  | [] => some []
  | d :: r => (test d).bind fun b => match b with
    | true => (elt d).bind fun x => (toD x).bind fun y => (zcP test elt r).map (y :: ·)
    | false => zcP test elt r
noncomputable def zdk (rs : List SV) (r : Option SV) : Option SV := r.bind fun x => if rs.any SV.lent && !x.plain then none else some x
noncomputable def zg9 : List SV → Option (List D)
  | [] => some []
  | r :: rs => (toD r).bind fun d => (zg9 rs).map (d :: ·)
mutual
noncomputable def evE (fn : Nat → List D → Option SV) : E → Env → Option SV
  | .int i, _ => some (.val (.int i))
  | .bl b, _ => some (.val (.bl b))
  | .non, _ => some (.val .non)
  | .str x, _ => some (.val (.str x))
  | .var i, ρ => look ρ i
  | .prim p es, ρ => (zbV fn es ρ).bind fun rs => zao p (rs.map zby)
  | .tup es, ρ => (zbV fn es ρ).bind fun rs => (zg9 rs).map fun ds => .val (.tup ds)
  | .lst es, ρ => (zbV fn es ρ).bind fun rs => (zg9 rs).map fun ds => SV.obj true (.lst ds)
  | .and a b, ρ => (evE fn a ρ).bind fun r => match r with
    | .val (.bl true) => evE fn b ρ
    | .val (.bl false) => some (.val (.bl false))
    | _ => none
  | .or a b, ρ => (evE fn a ρ).bind fun r => match r with
    | .val (.bl true) => some (.val (.bl true))
    | .val (.bl false) => evE fn b ρ
    | _ => none
  | .not a, ρ => (evE fn a ρ).bind fun r => match r with
    | .val (.bl b) => some (.val (.bl (!b)))
    | _ => none
  | .chain p q a b c, ρ => (evE fn a ρ).bind fun x => (evE fn b ρ).bind fun y => (zao p [zby x, zby y]).bind fun z => match z with
    | .val (.bl true) => (evE fn c ρ).bind fun w => zao q [zby y, zby w]
    | .val (.bl false) => some (.val (.bl false))
    | _ => none
  | .ite c a b, ρ => (evT fn c ρ).bind fun k => if k then evE fn a ρ else evE fn b ρ
  | .call f es, ρ => (zbV fn es ρ).bind fun rs => zdk rs (fn f (rs.map zby))
  | .dnew t, _ => some (.obj true (.dct t [] []))
  | .done t k v, ρ => (evE fn k ρ).bind fun x => (evE fn v ρ).bind fun y => (toD x).bind fun a => (toD y).bind fun b => if zce t a then some (.obj true (.dct t [a] [b])) else none
  | .comp rng src cond elt, ρ => (zbV fn src ρ).bind fun rs => (zaN rng rs).bind fun ds =>
    if ds.length ≤ line then (zcP (fun d => evT fn cond (some (.val d) :: ρ)) (fun d => evE fn elt (some (.val d) :: ρ)) ds).map fun l => SV.obj true (.lst l) else none
noncomputable def zbV (fn : Nat → List D → Option SV) : Es → Env → Option (List SV)
  | .nil, _ => some []
  | .cons e es, ρ => (evE fn e ρ).bind fun r => (zbV fn es ρ).map (r :: ·)
noncomputable def evT (fn : Nat → List D → Option SV) : E → Env → Option Bool
  | .and a b, ρ => (evT fn a ρ).bind fun k => if k then evT fn b ρ else some false
  | .or a b, ρ => (evT fn a ρ).bind fun k => if k then some true else evT fn b ρ
  | .not a, ρ => (evT fn a ρ).map (!·)
  | .int i, _ => some (i != 0)
  | .bl b, _ => some b
  | .non, _ => some false
  | .str _, _ => none
  | .var i, ρ => (look ρ i).bind zbp
  | .prim p es, ρ => (zbV fn es ρ).bind fun rs => (zao p (rs.map zby)).bind zbp
  | .tup _, _ => none
  | .lst _, _ => none
  | .chain p q a b c, ρ => (evE fn a ρ).bind fun x => (evE fn b ρ).bind fun y => (zao p [zby x, zby y]).bind fun z => match z with
    | .val (.bl true) => (evE fn c ρ).bind fun w => (zao q [zby y, zby w]).bind zbp
    | .val (.bl false) => some false
    | _ => none
  | .ite _ _ _, _ => none
  | .call f es, ρ => (zbV fn es ρ).bind fun rs => (zdk rs (fn f (rs.map zby))).bind zbp
  | .comp rng src cond elt, ρ => (zbV fn src ρ).bind fun rs => (zaN rng rs).bind fun ds =>
    if ds.length ≤ line then (zcP (fun d => evT fn cond (some (.val d) :: ρ)) (fun d => evE fn elt (some (.val d) :: ρ)) ds).map fun l => !l.isEmpty else none
  | .dnew _, _ => none
  | .done _ _ _, _ => none
end
inductive Ans where
  | ok (r : SV) (outs : List D)
  | ex (c : Nat)
noncomputable def prj (fa : Nat → List D → Option Ans) (f : Nat) (ds : List D) : Option SV := match fa f ds with
  | some (.ok r []) => some r
  | _ => none
set_option genInjectivity false
inductive MA where
  | nil | e (c : E) (r : MA) | s (i : Nat) (r : MA) | n (t : Bool) (r : MA)
inductive AV where
  | e (d : D) | l (ds : List D) | s (i : Nat) (d : D) | n (t : Bool)
inductive M where
  | call (f : Nat) (ma : MA)
  | op (p : Prim) (a : E) (m : M)
set_option genInjectivity true
noncomputable def zis : D → Bool
  | .dct _ _ vs => zbd vs
  | _ => false
noncomputable def SV.fine : SV → Bool
  | .val d => LW.plain d
  | .obj true d => zbU d
  | _ => false
noncomputable def zjK : SV → Option AV
  | .val (.lst ds) => if zbd ds then some (.l ds) else none
  | .val d => if plain d then some (.e d) else none
  | .obj _ (.lst ds) => if zbd ds then some (.l ds) else none
  | _ => none
noncomputable def zd8 (ρ : Env) (i : Nat) : Option D := match ρ[i]? with
  | some (some x) => x.cell
  | _ => none
noncomputable def zji (fn : Nat → List D → Option SV) : MA → Env → Option (List AV)
  | .nil, _ => some []
  | .e c r, ρ => (evE fn c ρ).bind fun x => (zjK x).bind fun a => (zji fn r ρ).map (a :: ·)
  | .s i r, ρ => (zd8 ρ i).bind fun d => if zis d then (zji fn r ρ).map (.s i d :: ·) else none
  | .n t r, ρ => (zji fn r ρ).map (.n t :: ·)
noncomputable def zon : AV → D
  | .e d => d
  | .l ds => .lst ds
  | .s _ d => d
  | .n t => .dct t [] []
noncomputable def zq9 (ρ : Env) (i : Nat) (d : D) : Env := match ρ[i]? with
  | some (some x) => ρ.set i (some (x.put d))
  | _ => ρ
noncomputable def zha (ρ : Env) : List AV → List D → Option Env
  | [], [] => some ρ
  | .s i _ :: r, d :: ds => zha (zq9 ρ i d) r ds
  | .n _ :: r, _ :: ds => zha ρ r ds
  | .e _ :: r, ds => zha ρ r ds
  | .l _ :: r, ds => zha ρ r ds
  | _, _ => none
noncomputable def evM (fa : Nat → List D → Option Ans) : M → Env → Option (SV × Env)
  | .call f ma, ρ => (zji (prj fa) ma ρ).bind fun xs => (fa f (xs.map zon)).bind fun a => match a with
    | .ok r outs => if r.fine && outs.all zbU then (zha ρ xs outs).map fun ρ' => (r, ρ') else none
    | .ex _ => none
  | .op p a m, ρ => (evE (prj fa) a ρ).bind fun x => match x with
    | .val d => if plain d then (evM fa m ρ).bind fun y => (zao p [d, zby y.1]).map fun z => (z, y.2) else none
    | _ => none
set_option genInjectivity false
mutual
inductive S where
  | expr (e : E) | asg (i : Nat) (e : E) | mov (i j : Nat) | app (i : Nat) (e : E) | dset (i : Nat) (k v : E) | dupd (i j : Nat) | unp3 (i j k : Nat) (e : E) | exprM (m : M) | asgM (i : Nat) (m : M) | ifO (c : E) (m : M) (a b : Ss) | ret (e : E) | retV (i : Nat) | retN
  | ifs (c : E) (a b : Ss) | for_ (i : Nat) (rng : Bool) (src : Es) (body : Ss) | forV (i j : Nat) (body : Ss) | forU (i j : Nat) (rng : Bool) (src : Es) (body : Ss) | forE (i j : Nat) (src : E) (body : Ss) | while_ (c : E) (body : Ss) | frz (js : List Nat) (s : S) | brk | cnt | pass | stop
inductive Ss where
  | nil | cons (s : S) (ss : Ss)
end
set_option genInjectivity true
inductive Fl where
  | nx | br | ct | rt (r : SV)
noncomputable def zhb (i : Nat) (body : Env → Option (Fl × Env)) : List D → Env → Option (Fl × Env)
  | [], ρ => some (.nx, ρ)
  | d :: r, ρ => (body (ρ.set i (some (.val d)))).bind fun x => match x.1 with
    | .nx => zhb i body r x.2
    | .ct => zhb i body r x.2
    | .br => some (.nx, x.2)
    | .rt v => some (.rt v, x.2)
noncomputable def zpf : D → Bool
  | .tup [.int a, .int b] => decide (0 ≤ a ∧ a ≤ 7 ∧ 0 ≤ b ∧ b ≤ 7)
  | _ => false
noncomputable def zjL (ks vs : List D) : List D → List D → List D × List D
  | k :: ks2, v :: vs2 => match zol true ks vs k v with
    | .dct _ a b => zjL a b ks2 vs2
    | _ => (ks, vs)
  | _, _ => (ks, vs)
noncomputable def zs7 (ρ : Env) (i : Nat) (x : SV) : Option D → Option D → Option (Fl × Env)
  | some (.dct true ks vs), some (.dct true ks2 vs2) => if ks2.all zpf && decide (ks.length + ks2.length < line) then some (.nx, ρ.set i (some (x.put (.dct true (zjL ks vs ks2 vs2).1 (zjL ks vs ks2 vs2).2)))) else none
  | _, _ => none
noncomputable def zpg (ρ : Env) (i j : Nat) : Option (Fl × Env) := if i = j then none else match ρ[i]? with
  | some (some x) => zs7 ρ i x x.cell (zd8 ρ j)
  | _ => none
noncomputable def zph (ρ : Env) (i j k : Nat) : SV → Option (Fl × Env)
  | .obj true (.lst [a, b, c]) => if free ρ i && free ρ j && free ρ k then some (.nx, ((ρ.set i (some (.val a))).set j (some (.val b))).set k (some (.val c))) else none
  | _ => none
noncomputable def zjM : Nat → List D → List D
  | _, [] => []
  | k, d :: r => .tup [.int k, d] :: zjM (k + 1) r
noncomputable def zs8 : SV → Option (List D)
  | .obj true (.lst l) => some (zjM 0 l)
  | .val (.str x) => some (zjM 0 (zpc x))
  | _ => none
noncomputable def zk9 (i j : Nat) (body : Env → Option (Fl × Env)) : List D → Env → Option (Fl × Env)
  | [], ρ => some (.nx, ρ)
  | .tup [a, b] :: r, ρ => (body ((ρ.set i (some (.val a))).set j (some (.val b)))).bind fun x => match x.1 with
    | .nx => zk9 i j body r x.2
    | .ct => zk9 i j body r x.2
    | .br => some (.nx, x.2)
    | .rt v => some (.rt v, x.2)
  | _, _ => none
noncomputable def zjN (test : Env → Option Bool) (body : Env → Option (Fl × Env)) : Nat → Env → Option (Fl × Env)
  | 0, _ => none
  | n + 1, ρ => (test ρ).bind fun b => if b then (body ρ).bind fun x => (match x.1 with
    | .nx => zjN test body n x.2
    | .ct => zjN test body n x.2
    | .br => some (.nx, x.2)
    | .rt v => some (.rt v, x.2)) else some (.nx, ρ)
noncomputable def zjO (ρ : Env) (j : Nat) : Option (List D × Env) := match ρ[j]? with
  | some (some (.val d)) => (zhj d).map fun l => (l, ρ)
  | some (some (.obj _ (.lst ds))) => some (ds, ρ.set j (some (.val (.lst ds))))
  | _ => none
noncomputable def zra (ρ : Env) (j : Nat) : Env := match ρ[j]? with
  | some (some (.obj true d)) => ρ.set j (some (.val d))
  | _ => ρ
mutual
noncomputable def exS (fa : Nat → List D → Option Ans) (fuel : Nat) : S → Env → Option (Fl × Env)
  | .expr e, ρ => (evE (prj fa) e ρ).map fun _ => (.nx, ρ)
  | .asg i e, ρ => (evE (prj fa) e ρ).bind fun r => if r.lent || !free ρ i then none else some (.nx, ρ.set i (some r))
  | .mov i j, ρ => if free ρ i then (match ρ[j]? with
    | some (some (.val d)) => some (.nx, ρ.set i (some (.val d)))
    | some (some (.obj _ d)) => some (.nx, (ρ.set j (some (.val d))).set i (some (.val d)))
    | _ => none) else none
  | .app i e, ρ => match ρ[i]? with
    | some (some x) => (match x.cell with
      | some (.lst ds) => (evE (prj fa) e ρ).bind fun r => (toD r).bind fun d => if ds.length < line then some (.nx, ρ.set i (some (x.put (.lst (ds ++ [d]))))) else none
      | _ => none)
    | _ => none
  | .dupd i j, ρ => zpg ρ i j
  | .unp3 i j k e, ρ => (evE (prj fa) e ρ).bind (zph ρ i j k)
  | .dset i k v, ρ => match ρ[i]? with
    | some (some x) => (match x.cell with
      | some (.dct t ks vs) => (evE (prj fa) v ρ).bind fun r => (toD r).bind fun d => (evE (prj fa) k ρ).bind fun r => (toD r).bind fun a => if zce t a && decide (ks.length < line) then some (.nx, ρ.set i (some (x.put (zol t ks vs a d)))) else none
      | _ => none)
    | _ => none
  | .exprM m, ρ => (evM fa m ρ).map fun x => (.nx, x.2)
  | .asgM i m, ρ => (evM fa m ρ).bind fun x => if x.1.lent || !free x.2 i then none else some (.nx, x.2.set i (some (.val (zby x.1))))
  | .ifO c m a b, ρ => (evT (prj fa) c ρ).bind fun k => if k then zbq fa fuel a ρ else (evM fa m ρ).bind fun x => (zbp x.1).bind fun k => if k then zbq fa fuel a x.2 else zbq fa fuel b x.2
  | .ret e, ρ => (evE (prj fa) e ρ).bind fun r => if r.lent then none else some (.rt r, ρ)
  | .retV i, ρ => match ρ[i]? with
    | some (some (.val d)) => some (.rt (.val d), ρ)
    | some (some (.obj _ d)) => some (.rt (.obj true d), ρ.set i none)
    | _ => none
  | .retN, ρ => some (.rt (.val .non), ρ)
  | .ifs c a b, ρ => (evT (prj fa) c ρ).bind fun k => if k then zbq fa fuel a ρ else zbq fa fuel b ρ
  | .for_ i rng src body, ρ => (zbV (prj fa) src ρ).bind fun rs => if rs.any SV.lent || !free ρ i then none else (zaN rng rs).bind fun ds => zhb i (zbq fa fuel body) ds ρ
  | .forV i j body, ρ => if free ρ i then (zjO ρ j).bind fun x => zhb i (zbq fa fuel body) x.1 x.2 else none
  | .forU i j rng src body, ρ => (zbV (prj fa) src ρ).bind fun rs => if rs.any SV.lent || !free ρ i || !free ρ j then none else (zaN rng rs).bind fun ds => zk9 i j (zbq fa fuel body) ds ρ
  | .forE i j src body, ρ => (evE (prj fa) src ρ).bind fun r => if !free ρ i || !free ρ j then none else (zs8 r).bind fun ds => zk9 i j (zbq fa fuel body) ds ρ
  | .while_ c body, ρ => zjN (evT (prj fa) c) (zbq fa fuel body) fuel ρ
  | .frz js s, ρ => exS fa fuel s (js.foldl zra ρ)
  | .brk, ρ => some (.br, ρ)
  | .cnt, ρ => some (.ct, ρ)
  | .pass, ρ => some (.nx, ρ)
  | .stop, _ => none
noncomputable def zbq (fa : Nat → List D → Option Ans) (fuel : Nat) : Ss → Env → Option (Fl × Env)
  | .nil, ρ => some (.nx, ρ)
  | .cons s ss, ρ => (exS fa fuel s ρ).bind fun x => match x.1 with
    | .nx => zbq fa fuel ss x.2
    | _ => some x
end
inductive Hd where
  | ret (ks : List Nat) | two (i : Nat) (ks ks2 : List Nat)
mutual
inductive T where
  | pl (s : S) | raise (c : Nat) | callX (i : Nat) (es : Es) | retX (i : Nat) (es : Es) | asgX (k i : Nat) (es : Es) | ifX (neg : Bool) (i : Nat) (es : Es) (a b : Ts) | ifs (c : E) (a b : Ts) | tryX (b : Ts) (k : Nat) (cs : List Nat) (h : Hd) | stuck
inductive Ts where
  | nil | cons (t : T) (ts : Ts)
end
inductive FlX where
  | fl (f : Fl) | ex (c : Nat)
noncomputable def zmA (c k : Nat) : Bool := k == c || k == 0 || k == 7
noncomputable def zjP (fa : Nat → List D → Option Ans) (i : Nat) (es : Es) (ρ : Env) : Option Ans := (zbV (prj fa) es ρ).bind fun rs => if rs.any SV.lent then none else fa i (rs.map zby)
noncomputable def hdX (c : Nat) (ρ : Env) : Hd → Option (FlX × Env)
  | .ret ks => if ks.all (zmA c) then some (.fl (.rt (.obj true (.lst (ks.map fun _ => .bl true)))), ρ) else none
  | .two _ _ _ => none
mutual
noncomputable def exT (fa : Nat → List D → Option Ans) (fuel : Nat) : T → Env → Option (FlX × Env)
  | .pl s, ρ => (exS fa fuel s ρ).map fun x => (.fl x.1, x.2)
  | .raise c, ρ => some (.ex c, ρ)
  | .callX i es, ρ => (zjP fa i es ρ).bind fun a => match a with
    | .ok _ [] => some (.fl .nx, ρ)
    | .ex c => some (.ex c, ρ)
    | _ => none
  | .retX i es, ρ => (zjP fa i es ρ).bind fun a => match a with
    | .ok r [] => if r.lent then none else some (.fl (.rt r), ρ)
    | .ex c => some (.ex c, ρ)
    | _ => none
  | .asgX k i es, ρ => (zjP fa i es ρ).bind fun a => match a with
    | .ok r [] => if r.lent || !free ρ k then none else some (.fl .nx, ρ.set k (some r))
    | .ex c => some (.ex c, ρ)
    | _ => none
  | .ifX neg i es a b, ρ => (zjP fa i es ρ).bind fun x => match x with
    | .ok (.val (.bl k)) [] => if k != neg then zbr fa fuel a ρ else zbr fa fuel b ρ
    | .ex c => some (.ex c, ρ)
    | _ => none
  | .ifs c a b, ρ => (evT (prj fa) c ρ).bind fun k => if k then zbr fa fuel a ρ else zbr fa fuel b ρ
  | .tryX b k cs h, ρ => (zbr fa fuel b ρ).bind fun x => match x.1 with
    | .fl _ => some x
    | .ex c => if cs.contains c then hdX c x.2 h else none
  | .stuck, _ => none
noncomputable def zbr (fa : Nat → List D → Option Ans) (fuel : Nat) : Ts → Env → Option (FlX × Env)
  | .nil, ρ => some (.fl .nx, ρ)
  | .cons t ts, ρ => (exT fa fuel t ρ).bind fun x => match x.1 with
    | .fl .nx => zbr fa fuel ts x.2
    | _ => some x
end
structure Fn where
  np : Nat
  nl : Nat
  body : Ss
  io : List Nat := []
  xb : Option Ts := none
noncomputable def zla : Option (FlX × Env) → Option Ans
  | some (.fl (.rt r), _) => some (.ok r [])
  | some (.fl .nx, _) => some (.ok (.val .non) [])
  | some (.ex c, _) => some (.ex c)
  | _ => none
noncomputable def zbW (ρ : Env) : List Nat → Option (List D)
  | [] => some []
  | i :: r => match ρ[i]? with
    | some (some (.io d)) => (zbW ρ r).map (d :: ·)
    | _ => none
noncomputable def znj (io : List Nat) : Option (Fl × Env) → Option Ans
  | some (.rt r, ρ) => (zbW ρ io).map (Ans.ok r)
  | some (.nx, ρ) => (zbW ρ io).map (Ans.ok (.val .non))
  | _ => none
noncomputable def zcH (io : List Nat) : Nat → List D → Env
  | _, [] => []
  | k, d :: r => some (if io.contains k then .io d else .val d) :: zcH io (k + 1) r
noncomputable def zah (P : Nat → Option Fn) (fuel : Nat) : Nat → Nat → List D → Option Ans
  | 0, _, _ => none
  | n + 1, f, ds => (P f).bind fun F => if ds.length = F.np then (match F.xb with
    | none => znj F.io (zbq (zah P fuel n) fuel F.body (zcH F.io 0 ds ++ List.replicate (F.nl - F.np) none))
    | some t => zla (zbr (zah P fuel n) fuel t (zcH [] 0 ds ++ List.replicate (F.nl - F.np) none))) else none
noncomputable def zbl (P : Nat → Option Fn) (fuel n : Nat) : Nat → List D → Option SV := prj (zah P fuel n)
theorem zmB {fn i ρ} : evE fn (E.int i) ρ = (some (.val (.int i))) := id rfl
theorem zs9 {fn b ρ} : evE fn (E.bl b) ρ = (some (.val (.bl b))) := id rfl
theorem zpi {fn  ρ} : evE fn (E.non) ρ = (some (.val .non)) := id rfl
theorem zpj {fn x ρ} : evE fn (E.str x) ρ = (some (.val (.str x))) := id rfl
theorem zpk {fn i ρ} : evE fn (E.var i) ρ = (look ρ i) := id rfl
theorem zci {fn p es ρ} : evE fn (E.prim p es) ρ = ((zbV fn es ρ).bind fun rs => zao p (rs.map zby)) := id rfl
theorem zpl {fn es ρ} : evE fn (E.tup es) ρ = ((zbV fn es ρ).bind fun rs => (zg9 rs).map fun ds => .val (.tup ds)) := id rfl
theorem zpm {fn es ρ} : evE fn (E.lst es) ρ = ((zbV fn es ρ).bind fun rs => (zg9 rs).map fun ds => SV.obj true (.lst ds)) := id rfl
theorem zpn {fn a b ρ} : evE fn (E.and a b) ρ = ((evE fn a ρ).bind fun r => match r with
    | .val (.bl true) => evE fn b ρ
    | .val (.bl false) => some (.val (.bl false))
    | _ => none) := id rfl
theorem zlb {fn p q a b c ρ} : evE fn (E.chain p q a b c) ρ = ((evE fn a ρ).bind fun x => (evE fn b ρ).bind fun y => (zao p [zby x, zby y]).bind fun z => match z with
    | .val (.bl true) => (evE fn c ρ).bind fun w => zao q [zby y, zby w]
    | .val (.bl false) => some (.val (.bl false))
    | _ => none) := id rfl
theorem zjQ {fn f es ρ} : evE fn (E.call f es) ρ = ((zbV fn es ρ).bind fun rs => zdk rs (fn f (rs.map zby))) := id rfl
theorem znk {fn rng src cond elt ρ} : evE fn (E.comp rng src cond elt) ρ = ((zbV fn src ρ).bind fun rs => (zaN rng rs).bind fun ds =>
    if ds.length ≤ line then (zcP (fun d => evT fn cond (some (.val d) :: ρ)) (fun d => evE fn elt (some (.val d) :: ρ)) ds).map fun l => SV.obj true (.lst l) else none) := id rfl
theorem zb2 {fn  ρ} : zbV fn (Es.nil) ρ = (some []) := id rfl
theorem zbB {fn e es ρ} : zbV fn (Es.cons e es) ρ = ((evE fn e ρ).bind fun r => (zbV fn es ρ).map (r :: ·)) := id rfl
theorem zta {fn a b ρ} : evT fn (E.or a b) ρ = ((evT fn a ρ).bind fun k => if k then some true else evT fn b ρ) := id rfl
theorem zpo {fn a ρ} : evT fn (E.not a) ρ = ((evT fn a ρ).map (!·)) := id rfl
theorem ztb {fn b ρ} : evT fn (E.bl b) ρ = (some b) := id rfl
theorem zjR {fn p es ρ} : evT fn (E.prim p es) ρ = ((zbV fn es ρ).bind fun rs => (zao p (rs.map zby)).bind zbp) := id rfl
theorem zlc {fn p q a b c ρ} : evT fn (E.chain p q a b c) ρ = ((evE fn a ρ).bind fun x => (evE fn b ρ).bind fun y => (zao p [zby x, zby y]).bind fun z => match z with
    | .val (.bl true) => (evE fn c ρ).bind fun w => (zao q [zby y, zby w]).bind zbp
    | .val (.bl false) => some false
    | _ => none) := id rfl
theorem znl {fn f es ρ} : evT fn (E.call f es) ρ = ((zbV fn es ρ).bind fun rs => (zdk rs (fn f (rs.map zby))).bind zbp) := id rfl
theorem zpp {fa fuel i e ρ} : exS fa fuel (S.asg i e) ρ = ((evE (prj fa) e ρ).bind fun r => if r.lent || !free ρ i then none else some (.nx, ρ.set i (some r))) := id rfl
theorem zpq {fa fuel i j ρ} : exS fa fuel (S.mov i j) ρ = (if free ρ i then (match ρ[j]? with
    | some (some (.val d)) => some (.nx, ρ.set i (some (.val d)))
    | some (some (.obj _ d)) => some (.nx, (ρ.set j (some (.val d))).set i (some (.val d)))
    | _ => none) else none) := id rfl
theorem zmC {fa fuel i e ρ} : exS fa fuel (S.app i e) ρ = (match ρ[i]? with
    | some (some x) => (match x.cell with
      | some (.lst ds) => (evE (prj fa) e ρ).bind fun r => (toD r).bind fun d => if ds.length < line then some (.nx, ρ.set i (some (x.put (.lst (ds ++ [d]))))) else none
      | _ => none)
    | _ => none) := id rfl
theorem znm {fa fuel i k v ρ} : exS fa fuel (S.dset i k v) ρ = (match ρ[i]? with
    | some (some x) => (match x.cell with
      | some (.dct t ks vs) => (evE (prj fa) v ρ).bind fun r => (toD r).bind fun d => (evE (prj fa) k ρ).bind fun r => (toD r).bind fun a => if zce t a && decide (ks.length < line) then some (.nx, ρ.set i (some (x.put (zol t ks vs a d)))) else none
      | _ => none)
    | _ => none) := id rfl
theorem zpr {fa fuel e ρ} : exS fa fuel (S.ret e) ρ = ((evE (prj fa) e ρ).bind fun r => if r.lent then none else some (.rt r, ρ)) := id rfl
theorem zjS {fa fuel i ρ} : exS fa fuel (S.retV i) ρ = (match ρ[i]? with
    | some (some (.val d)) => some (.rt (.val d), ρ)
    | some (some (.obj _ d)) => some (.rt (.obj true d), ρ.set i none)
    | _ => none) := id rfl
theorem zps {fa fuel c a b ρ} : exS fa fuel (S.ifs c a b) ρ = ((evT (prj fa) c ρ).bind fun k => if k then zbq fa fuel a ρ else zbq fa fuel b ρ) := id rfl
theorem znn {fa fuel i rng src body ρ} : exS fa fuel (S.for_ i rng src body) ρ = ((zbV (prj fa) src ρ).bind fun rs => if rs.any SV.lent || !free ρ i then none else (zaN rng rs).bind fun ds => zhb i (zbq fa fuel body) ds ρ) := id rfl
theorem zno {fa fuel  ρ} : exS fa fuel (S.stop) ρ = (none) := id rfl
theorem znp {fa fuel  ρ} : zbq fa fuel (Ss.nil) ρ = (some (.nx, ρ)) := id rfl
theorem zld {fa fuel s ss ρ} : zbq fa fuel (Ss.cons s ss) ρ = ((exS fa fuel s ρ).bind fun x => match x.1 with
    | .nx => zbq fa fuel ss x.2
    | _ => some x) := id rfl
theorem on1 {α : Type} {P : List α → Prop} (h : ∀ a0, P [a0]) (us : List α) (hl : us.length = 1) : P us := by
  cases us with
  | nil => cases hl
  | cons a0 r0 =>
    cases r0 with
    | nil => exact h a0
    | cons _ _ => simp at hl
theorem on2 {α : Type} {P : List α → Prop} (h : ∀ a0 a1, P [a0, a1]) (us : List α) (hl : us.length = 2) : P us := by
  cases us with
  | nil => cases hl
  | cons a0 r0 =>
    cases r0 with
    | nil => cases hl
    | cons a1 r1 =>
      cases r1 with
      | nil => exact h a0 a1
      | cons _ _ => simp at hl
theorem on3 {α : Type} {P : List α → Prop} (h : ∀ a0 a1 a2, P [a0, a1, a2]) (us : List α) (hl : us.length = 3) : P us := by
  cases us with
  | nil => cases hl
  | cons a0 r0 =>
    cases r0 with
    | nil => cases hl
    | cons a1 r1 =>
      cases r1 with
      | nil => cases hl
      | cons a2 r2 =>
        cases r2 with
        | nil => exact h a0 a1 a2
        | cons _ _ => simp at hl
theorem on4 {α : Type} {P : List α → Prop} (h : ∀ a0 a1 a2 a3, P [a0, a1, a2, a3]) (us : List α) (hl : us.length = 4) : P us := by
  cases us with
  | nil => cases hl
  | cons a0 r0 =>
    cases r0 with
    | nil => cases hl
    | cons a1 r1 =>
      cases r1 with
      | nil => cases hl
      | cons a2 r2 =>
        cases r2 with
        | nil => cases hl
        | cons a3 r3 =>
          cases r3 with
          | nil => exact h a0 a1 a2 a3
          | cons _ _ => simp at hl
end L2.LW
set_option maxHeartbeats 4000000
namespace L2.LW
open PySem PySem.Spec PyProof.Rows
noncomputable def ztc (K : PySem.W.Frag) (a : Addr) (xs : List V) : Prop :=
  ∃ (o : Obj) (its : Array Value) (n : Nat), K.lookup a = some o ∧ o.cls = .type "list" ∧ o.dict = Option.none ∧ o.data = .seq its n ∧ its.size ≤ sizeLine ∧ Vals xs its.toList
noncomputable def znq (ns : List Int) (ys : List V) : List (Key × V) := (ns.map Sum.inl).zip ys
noncomputable def znr (ns : List (List Int)) (ys : List V) : List (List Key × V) := (ns.map fun l => l.map Sum.inl).zip ys
noncomputable def kT (l : List Int) : D := .tup (l.map D.int)
mutual
inductive Rep (K : PySem.W.Frag) (W : Addr → Prop) (H : Hp) : D → V → Prop where
  | int (i : Int) : Rep K W H (.int i) (.int i)
  | bl (b : Bool) : Rep K W H (.bl b) (.bl b)
  | non : Rep K W H .non .non
  | str (x : Str) : Rep K W H (.str x) (.str x)
  | tup {a : Addr} {xs : List V} {ds : List D} (h : H a = some (.tup xs)) (r : Reps K W H ds xs) : Rep K W H (.tup ds) (.ref a)
  | lst {a : Addr} {xs : List V} {ds : List D} (h : (¬ W a ∧ Rd H a (.lst xs)) ∨ ztc K a xs) (r : Reps K W H ds xs) : Rep K W H (.lst ds) (.ref a)
  | dK {a : Addr} {ns : List Int} {ys : List V} {vs : List D} (n : ¬ W a) (h : H a = some (.dK (znq ns ys))) (l : ns.length = ys.length) (r : Reps K W H vs ys) : Rep K W H (.dct false (ns.map D.int) vs) (.ref a)
  | dT {a : Addr} {ns : List (List Int)} {ys : List V} {vs : List D} (n : ¬ W a) (h : H a = some (.dT (znr ns ys))) (l : ns.length = ys.length) (r : Reps K W H vs ys) : Rep K W H (.dct true (ns.map kT) vs) (.ref a)
inductive Reps (K : PySem.W.Frag) (W : Addr → Prop) (H : Hp) : List D → List V → Prop where
  | nil : Reps K W H [] []
  | cons {d : D} {v : V} {ds : List D} {vs : List V} (h : Rep K W H d v) (t : Reps K W H ds vs) : Reps K W H (d :: ds) (v :: vs)
end
inductive ORep (K : PySem.W.Frag) (W : Addr → Prop) (H : Hp) : D → HO → Prop where
  | lst {xs : List V} {ds : List D} (r : Reps K W H ds xs) : ORep K W H (.lst ds) (.lst xs)
  | dK {ns : List Int} {ys : List V} {vs : List D} (l : ns.length = ys.length) (r : Reps K W H vs ys) : ORep K W H (.dct false (ns.map D.int) vs) (.dK (znq ns ys))
  | dT {ns : List (List Int)} {ys : List V} {vs : List D} (l : ns.length = ys.length) (r : Reps K W H vs ys) : ORep K W H (.dct true (ns.map kT) vs) (.dT (znr ns ys))
structure Ext (W : Addr → Prop) (H : Hp) (W' : Addr → Prop) (H' : Hp) : Prop where
  keep : ∀ a o, H a = some o → ¬ W a → H' a = some o
  tup : ∀ a xs, H a = some (.tup xs) → H' a = some (.tup xs)
  frz : ∀ a o u, H a = some (.frz o u) → H' a = some (.frz o u)
  win : ∀ a, W' a → W a ∨ H a = Option.none
theorem Ext.refl (W : Addr → Prop) (H : Hp) : Ext W H W H := ⟨fun _ _ h _ => h, fun _ _ h => h, fun _ _ _ h => h, fun _ h => .inl h⟩
theorem Ext.out {W W' : Addr → Prop} {H H' : Hp} (x : Ext W H W' H') {a : Addr} {o : HO} (h : H a = some o) (n : ¬ W a) : ¬ W' a := fun w => by
  rcases x.win a w with q | q
  · exact n q
  · rw [h] at q; cases q
theorem Ext.trans {W W1 W2 : Addr → Prop} {H H1 H2 : Hp} (x : Ext W H W1 H1) (y : Ext W1 H1 W2 H2) : Ext W H W2 H2 := by
  refine ⟨fun a o h n => y.keep a o (x.keep a o h n) (x.out h n), fun a xs h => y.tup a xs (x.tup a xs h), fun a o u h => y.frz a o u (x.frz a o u h), fun a w => ?_⟩
  rcases y.win a w with q | q
  · exact x.win a q
  · cases e : H a with
    | none => exact .inr rfl
    | some o =>
      by_cases hw : W a
      · exact .inl hw
      · rw [x.keep a o e hw] at q; cases q
theorem Ext.same {W : Addr → Prop} {H H' : Hp} (s : Same H H') : Ext W H W H' := ⟨fun a o h _ => s a o h, fun a xs h => s a _ h, fun a o u h => s a _ h, fun _ w => .inl w⟩
section
variable {K : PySem.W.Frag} {W W' : Addr → Prop} {H H' : Hp}
mutual
theorem Rep.ext (x : Ext W H W' H') : ∀ {d : D} {v : V}, Rep K W H d v → Rep K W' H' d v
  | _, _, .int i => .int i
  | _, _, .bl b => .bl b
  | _, _, .non => .non
  | _, _, .str s => .str s
  | _, _, .dK n h l r => .dK (x.out h n) (x.keep _ _ h n) l (Reps.ext x r)
  | _, _, .dT n h l r => .dT (x.out h n) (x.keep _ _ h n) l (Reps.ext x r)
  | _, _, .tup h r => .tup (x.tup _ _ h) (Reps.ext x r)
  | _, _, .lst h r => .lst (by
      rcases h with ⟨n, h | ⟨o, h⟩⟩ | h
      · exact .inl ⟨x.out h n, .inl (x.keep _ _ h n)⟩
      · exact .inl ⟨x.out h n, .inr ⟨o, x.keep _ _ h n⟩⟩
      · exact .inr h) (Reps.ext x r)
theorem Reps.ext (x : Ext W H W' H') : ∀ {ds : List D} {vs : List V}, Reps K W H ds vs → Reps K W' H' ds vs
  | _, _, .nil => .nil
  | _, _, .cons h t => .cons (Rep.ext x h) (Reps.ext x t)
end
mutual
theorem Rep.less (x : ∀ a, W' a → W a) : ∀ {d : D} {v : V}, Rep K W H d v → Rep K W' H d v
  | _, _, .int i => .int i
  | _, _, .bl b => .bl b
  | _, _, .non => .non
  | _, _, .str s => .str s
  | _, _, .dK n h l r => .dK (fun w => n (x _ w)) h l (Reps.less x r)
  | _, _, .dT n h l r => .dT (fun w => n (x _ w)) h l (Reps.less x r)
  | _, _, .tup h r => .tup h (Reps.less x r)
  | _, _, .lst h r => .lst (by
      rcases h with ⟨n, h⟩ | h
      · exact .inl ⟨fun w => n (x _ w), h⟩
      · exact .inr h) (Reps.less x r)
theorem Reps.less (x : ∀ a, W' a → W a) : ∀ {ds : List D} {vs : List V}, Reps K W H ds vs → Reps K W' H ds vs
  | _, _, .nil => .nil
  | _, _, .cons h t => .cons (Rep.less x h) (Reps.less x t)
end
mutual
theorem Rep.plain : ∀ {d : D} {v : V}, Rep K W H d v → LW.plain d = true → Rep K W' H d v
  | _, _, .int i, _ => .int i
  | _, _, .bl b, _ => .bl b
  | _, _, .non, _ => .non
  | _, _, .str s, _ => .str s
  | _, _, .tup h r, p => .tup h (Reps.plain r (by simpa [LW.plain] using p))
  | _, _, .lst h r, p => by simp [LW.plain] at p
  | _, _, .dK _ _ _ _, p => by simp [LW.plain] at p
  | _, _, .dT _ _ _ _, p => by simp [LW.plain] at p
theorem Reps.plain : ∀ {ds : List D} {vs : List V}, Reps K W H ds vs → zbd ds = true → Reps K W' H ds vs
  | _, _, .nil, _ => .nil
  | _, _, .cons h t, p => by
    simp only [zbd, Bool.and_eq_true] at p
    exact .cons (Rep.plain h p.1) (Reps.plain t p.2)
end
theorem Reps.length : ∀ {ds : List D} {vs : List V}, Reps K W H ds vs → ds.length = vs.length
  | _, _, .nil => rfl
  | _, _, .cons _ t => by simp [Reps.length t]
theorem Reps.get : ∀ {ds : List D} {vs : List V} {i : Nat} {d : D}, Reps K W H ds vs → ds[i]? = some d → ∃ v, vs[i]? = some v ∧ Rep K W H d v
  | _, _, _, _, .nil, e => by simp at e
  | _, _, 0, _, .cons h _, e => by simp at e; subst e; exact ⟨_, rfl, h⟩
  | _, _, i + 1, d, .cons _ t, e => by
    obtain ⟨v, h1, h2⟩ := Reps.get (i := i) (d := d) t (by simpa using e)
    exact ⟨v, by simpa using h1, h2⟩
theorem Reps.append : ∀ {ds es : List D} {vs us : List V}, Reps K W H ds vs → Reps K W H es us → Reps K W H (ds ++ es) (vs ++ us)
  | _, _, _, _, .nil, s => s
  | _, _, _, _, .cons h t, s => .cons h (Reps.append t s)
theorem Reps.take : ∀ {ds : List D} {vs : List V} (n : Nat), Reps K W H ds vs → Reps K W H (ds.take n) (vs.take n)
  | _, _, 0, _ => .nil
  | _, _, _ + 1, .nil => .nil
  | _, _, n + 1, .cons h t => .cons h (Reps.take n t)
theorem Reps.drop : ∀ {ds : List D} {vs : List V} (n : Nat), Reps K W H ds vs → Reps K W H (ds.drop n) (vs.drop n)
  | _, _, 0, r => r
  | _, _, _ + 1, .nil => .nil
  | _, _, n + 1, .cons _ t => Reps.drop n t
theorem Reps.ints : ∀ (ns : List Int), Reps K W H (ns.map D.int) (ns.map V.int)
  | [] => .nil
  | i :: r => .cons (.int i) (Reps.ints r)
theorem Reps.ofInts : ∀ {ds : List D} {vs : List V} {ns : List Int}, Reps K W H ds vs → ints? ds = some ns → vs = ns.map V.int
  | _, _, ns, .nil, e => by simp [ints?] at e; subst e; rfl
  | _, _, ns, .cons (d := d) h t, e => by
    cases h with
    | int i =>
      simp only [ints?, jo2] at e
      obtain ⟨ms, e1, rfl⟩ := e
      rw [Reps.ofInts t e1]; rfl
    | _ => simp [ints?] at e
theorem ORep.ext {d : D} {o : HO} (h : ORep K W H d o) (x : Ext W H W' H') : ORep K W' H' d o := by
  cases h with
  | lst r => exact .lst (r.ext x)
  | dK l r => exact .dK l (r.ext x)
  | dT l r => exact .dT l (r.ext x)
theorem ORep.less {d : D} {o : HO} (h : ORep K W H d o) (x : ∀ a, W' a → W a) : ORep K W' H d o := by
  cases h with
  | lst r => exact .lst (r.less x)
  | dK l r => exact .dK l (r.less x)
  | dT l r => exact .dT l (r.less x)
theorem ORep.plain {d : D} {o : HO} (h : ORep K W H d o) (p : zbU d = true) : ORep K W' H d o := by
  cases h with
  | lst r => exact .lst (r.plain p)
  | dK l r => exact .dK l (r.plain p)
  | dT l r => exact .dT l (r.plain p)
theorem ORep.rep {d : D} {o : HO} {a : Addr} (h : ORep K W H d o) (n : ¬ W a) (e : H a = some o) : Rep K W H d (.ref a) := by
  cases h with
  | lst r => exact .lst (.inl ⟨n, .inl e⟩) r
  | dK l r => exact .dK n e l r
  | dT l r => exact .dT n e l r
theorem ORep.kind {d : D} {o : HO} (h : ORep K W H d o) : (∀ xs, o ≠ .tup xs) ∧ (∀ b u, o ≠ .frz b u) := by
  cases h <;> exact ⟨fun _ z => (nomatch z), fun _ _ z => (nomatch z)⟩
noncomputable def add (W : Addr → Prop) (a : Addr) : Addr → Prop := fun b => W b ∨ b = a
inductive Frz (K : PySem.W.Frag) (W : Addr → Prop) (H : Hp) : SV → V → Prop where
  | val {d : D} {v : V} (h : Rep K W H d v) : Frz K W H (.val d) v
  | lis {d : D} {a : Addr} {o : HO} (h : ¬ W a) (e : H a = some o) (r : ORep K W H d o) : Frz K W H (.obj true d) (.ref a)
  | see {d : D} {a : Addr} {o : HO} (h : W a) (e : H a = some o) (r : ORep K W H d o) : Frz K W H (.obj false d) (.ref a)
inductive Res (K : PySem.W.Frag) (W : Addr → Prop) (H H' : Hp) : SV → V → Prop where
  | val {d : D} {v : V} (h : Rep K W H' d v) : Res K W H H' (.val d) v
  | new {d : D} {a : Addr} {o : HO} (h : H a = Option.none) (e : H' a = some o) (r : ORep K (add W a) H' d o) : Res K W H H' (.obj true d) (.ref a)
  | see {d : D} {a : Addr} {o : HO} (h : W a) (e : H' a = some o) (r : ORep K W H' d o) : Res K W H H' (.obj false d) (.ref a)
noncomputable def Wf (W : Addr → Prop) (H : Hp) : Prop := ∀ a, W a → H a ≠ Option.none
theorem Res.frz {r : SV} {v : V} (h : Res K W H H' r v) (wf : Wf W H) : Frz K W H' r v := by
  cases h with
  | val h => exact .val h
  | new h e r => exact .lis (fun w => wf _ w h) e (r.less fun b w => .inl w)
  | see h e r => exact .see h e r
theorem Frz.same {r : SV} {v : V} (h : Frz K W H r v) (s : Same H H') : Frz K W H' r v := by
  cases h with
  | val h => exact .val (h.ext (.same s))
  | lis h e r => exact .lis h (s _ _ e) (r.ext (.same s))
  | see h e r => exact .see h (s _ _ e) (r.ext (.same s))
noncomputable def Sees (K : PySem.W.Frag) (W : Addr → Prop) (H : Hp) (d : D) (v : V) : Prop :=
  Rep K W H d v ∨ ∃ a o, v = .ref a ∧ H a = some o ∧ ORep K W H d o
theorem Frz.sees {r : SV} {v : V} (h : Frz K W H r v) : Sees K W H (zby r) v := by
  cases h with
  | val h => exact .inl h
  | lis h e r => exact .inr ⟨_, _, rfl, e, r⟩
  | see h e r => exact .inr ⟨_, _, rfl, e, r⟩
theorem Sees.lst {ds : List D} {v : V} (h : Sees K W H (.lst ds) v) : ∃ a xs, v = .ref a ∧ SqL K H a xs ∧ Reps K W H ds xs := by
  rcases h with h | ⟨a, o, rfl, e, r⟩
  · cases h with
    | lst h r =>
      rcases h with ⟨_, h⟩ | h
      · exact ⟨_, _, rfl, .inl h, r⟩
      · exact ⟨_, _, rfl, .inr h, r⟩
  · cases r with
    | lst r => exact ⟨_, _, rfl, .of e, r⟩
theorem Sees.tupH {ds : List D} {v : V} (h : Sees K W H (.tup ds) v) : ∃ a xs, v = .ref a ∧ H a = some (.tup xs) ∧ Reps K W H ds xs := by
  rcases h with h | ⟨a, o, rfl, e, r⟩
  · cases h with
    | tup h r => exact ⟨_, _, rfl, h, r⟩
  · cases r
theorem Sees.tup {ds : List D} {v : V} (h : Sees K W H (.tup ds) v) : ∃ a xs, v = .ref a ∧ SqT K H a xs ∧ Reps K W H ds xs := by
  obtain ⟨a, xs, e, h, r⟩ := h.tupH
  exact ⟨a, xs, e, .of h, r⟩
theorem Sees.dK {ks vs : List D} {v : V} (h : Sees K W H (.dct false ks vs) v) : ∃ a ns ys, v = .ref a ∧ ks = ns.map D.int ∧ H a = some (.dK (znq ns ys)) ∧ ns.length = ys.length ∧ Reps K W H vs ys := by
  rcases h with h | ⟨a, o, rfl, e, r⟩
  · cases h with
    | dK n h l r => exact ⟨_, _, _, rfl, rfl, h, l, r⟩
  · cases r with
    | dK l r => exact ⟨_, _, _, rfl, rfl, e, l, r⟩
theorem Sees.dT {ks vs : List D} {v : V} (h : Sees K W H (.dct true ks vs) v) : ∃ a ns ys, v = .ref a ∧ ks = ns.map kT ∧ H a = some (.dT (znr ns ys)) ∧ ns.length = ys.length ∧ Reps K W H vs ys := by
  rcases h with h | ⟨a, o, rfl, e, r⟩
  · cases h with
    | dT n h l r => exact ⟨_, _, _, rfl, rfl, h, l, r⟩
  · cases r with
    | dT l r => exact ⟨_, _, _, rfl, rfl, e, l, r⟩
theorem Sees.int {i : Int} {v : V} (h : Sees K W H (.int i) v) : v = .int i := by
  rcases h with h | ⟨a, o, rfl, e, r⟩
  · cases h; rfl
  · cases r
theorem Sees.bl {i : Bool} {v : V} (h : Sees K W H (.bl i) v) : v = .bl i := by
  rcases h with h | ⟨a, o, rfl, e, r⟩
  · cases h; rfl
  · cases r
theorem Sees.str {i : Str} {v : V} (h : Sees K W H (.str i) v) : v = .str i := by
  rcases h with h | ⟨a, o, rfl, e, r⟩
  · cases h; rfl
  · cases r
theorem Sees.non {v : V} (h : Sees K W H .non v) : v = .non := by
  rcases h with h | ⟨a, o, rfl, e, r⟩
  · cases h; rfl
  · cases r
theorem Frz.toD {r : SV} {v : V} {d : D} (h : Frz K W H r v) (e : LW.toD r = some d) : Rep K W H d v := by
  cases h with
  | val h => simp [LW.toD] at e; subst e; exact h
  | lis h e' r => simp [LW.toD] at e; subst e; exact r.rep h e'
  | see h e' r => simp [LW.toD] at e
noncomputable def Own (ρ : LW.Env) (σ : St) (a : Addr) : Prop := ∃ (i : Nat) (x : SV) (d : D), ρ[i]? = some (some x) ∧ x.cell = some d ∧ σ[i]? = some (some (.ref a))
structure R (K : PySem.W.Frag) (W : Addr → Prop) (ρ : LW.Env) (σ : St) (H : Hp) : Prop where
  val : ∀ (i : Nat) (d : D), ρ[i]? = some (some (.val d)) → ∃ v, σ[i]? = some (some v) ∧ Rep K W H d v
  nol : ∀ (i : Nat) (d : D), ρ[i]? ≠ some (some (.obj false d))
  own : ∀ (i : Nat) (x : SV) (d : D), ρ[i]? = some (some x) → x.cell = some d → ∃ a o, σ[i]? = some (some (.ref a)) ∧ W a ∧ H a = some o ∧ ORep K W H d o
  inj : ∀ (i j : Nat) (x y : SV) (d e : D) (a : Addr), ρ[i]? = some (some x) → ρ[j]? = some (some y) → x.cell = some d → y.cell = some e → σ[i]? = some (some (.ref a)) → σ[j]? = some (some (.ref a)) → i = j
  wf : Wf W H
  len : ρ.length = σ.length
theorem R.ownW {ρ : LW.Env} {σ : St} (r : R K W ρ σ H) {a : Addr} (o : Own ρ σ a) : W a ∧ ∃ o d, H a = some o ∧ ORep K W H d o := by
  obtain ⟨i, x, d, h1, h2, h3⟩ := o
  obtain ⟨b, o, e, w, q, z⟩ := r.own i x d h1 h2
  rw [h3] at e; cases e
  exact ⟨w, o, d, q, z⟩
theorem R.same {ρ : LW.Env} {σ : St} (r : R K W ρ σ H) (s : Same H H') : R K W ρ σ H' := by
  refine ⟨fun i d h => ?_, r.nol, fun i x d h h' => ?_, r.inj, fun a w => ?_, r.len⟩
  · obtain ⟨v, h1, h2⟩ := r.val i d h
    exact ⟨v, h1, h2.ext (.same s)⟩
  · obtain ⟨a, o, h1, h2, h3, h4⟩ := r.own i x d h h'
    exact ⟨a, o, h1, h2, s _ _ h3, h4.ext (.same s)⟩
  · cases e : H a with
    | none => exact absurd e (r.wf a w)
    | some o => rw [s a o e]; exact fun z => nomatch z
theorem R.look {ρ : LW.Env} {σ : St} (r : R K W ρ σ H) {i : Nat} {x : SV} (h : look ρ i = some x) : ∃ v, σ[i]? = some (some v) ∧ Frz K W H x v ∧ Res K W H H x v := by
  unfold LW.look at h
  split at h
  · rename_i d e
    cases h
    obtain ⟨v, h1, h2⟩ := r.val i d e
    exact ⟨v, h1, .val h2, .val h2⟩
  · rename_i o d e
    cases h
    cases o with
    | false => exact absurd e (r.nol i d)
    | true =>
      obtain ⟨a, o, h1, h2, h3, h4⟩ := r.own i _ d e rfl
      exact ⟨_, h1, .see h2 h3 h4, .see h2 h3 h4⟩
  · rename_i d e
    cases h
    obtain ⟨a, o, h1, h2, h3, h4⟩ := r.own i _ d e rfl
    exact ⟨_, h1, .see h2 h3 h4, .see h2 h3 h4⟩
  · cases h
noncomputable def zhc (ρ : LW.Env) (i : Nat) : Prop := ∃ d, ρ[i]? = some (some (.io d))
theorem zd9 {ρ : LW.Env} {i : Nat} (h : LW.free ρ i = true) : ¬ zhc ρ i := fun zz0 => by
  obtain ⟨d, e⟩ := zz0
  unfold LW.free at h; rw [e] at h; cases h
structure SPost (K : PySem.W.Frag) (W : Addr → Prop) (ρ : LW.Env) (σ : St) (H : Hp) (W' : Addr → Prop) (ρ' : LW.Env) (σ' : St) (H' : Hp) : Prop where
  r : R K W' ρ' σ' H'
  keep : ∀ a o, H a = some o → ¬ Own ρ σ a → H' a = some o
  win : ∀ a, W' a → W a ∨ H a = Option.none
  wout : ∀ a, W a → ¬ Own ρ σ a → W' a ∧ ¬ Own ρ' σ' a
  io : ∀ i, (zhc ρ' i ↔ zhc ρ i) ∧ (zhc ρ i → σ'[i]? = σ[i]?)
theorem SPost.trans {W1 W2 : Addr → Prop} {ρ ρ1 ρ2 : LW.Env} {σ σ1 σ2 : St} {H1 H2 : Hp} (x : SPost K W ρ σ H W1 ρ1 σ1 H1) (y : SPost K W1 ρ1 σ1 H1 W2 ρ2 σ2 H2) (r0 : R K W ρ σ H) : SPost K W ρ σ H W2 ρ2 σ2 H2 := by
  have no1 : ∀ a o, H a = some o → ¬ Own ρ σ a → ¬ Own ρ1 σ1 a := fun a o h n z => by
    rcases x.win a (x.r.ownW z).1 with w | w
    · exact (x.wout a w n).2 z
    · rw [h] at w; cases w
  refine ⟨y.r, fun a o h n => y.keep a o (x.keep a o h n) (no1 a o h n), fun a w => ?_, fun a w n => ?_, fun i => ⟨(y.io i).1.trans (x.io i).1, fun z => ((y.io i).2 ((x.io i).1.mpr z)).trans ((x.io i).2 z)⟩⟩
  · rcases y.win a w with q | q
    · exact x.win a q
    · cases e : H a with
      | none => exact .inr rfl
      | some o =>
        by_cases n : Own ρ σ a
        · exact .inl (r0.ownW n).1
        · rw [x.keep a o e n] at q; cases q
  · obtain ⟨w1, n1⟩ := x.wout a w n
    exact y.wout a w1 n1
theorem SPost.ext {W1 : Addr → Prop} {ρ ρ1 : LW.Env} {σ σ1 : St} {H1 : Hp} (x : SPost K W ρ σ H W1 ρ1 σ1 H1) (r0 : R K W ρ σ H) : Ext W H W1 H1 := by
  refine ⟨fun a o h n => x.keep a o h fun z => n (r0.ownW z).1, fun a xs h => x.keep a _ h fun z => ?_, fun a o u h => x.keep a _ h fun z => ?_, x.win⟩
  · obtain ⟨_, o, d, e, q⟩ := r0.ownW z
    rw [h] at e; cases e; exact q.kind.1 xs rfl
  · obtain ⟨_, o, d, e, q⟩ := r0.ownW z
    rw [h] at e; cases e; exact q.kind.2 _ _ rfl
theorem SPost.same {ρ : LW.Env} {σ : St} (r0 : R K W ρ σ H) (s : Same H H') : SPost K W ρ σ H W ρ σ H' :=
  ⟨r0.same s, fun a o h _ => s a o h, fun a w => .inl w, fun a w n => ⟨w, n⟩, fun _ => ⟨.rfl, fun _ => rfl⟩⟩
end
noncomputable def zvC (ρ : LW.Env) (σ : St) (a : Addr) : Prop := ∃ i, zhc ρ i ∧ σ[i]? = some (some (.ref a))
inductive Ret (K : PySem.W.Frag) (W : Addr → Prop) (ρ : LW.Env) (σ : St) (W' : Addr → Prop) (H' : Hp) : SV → V → Prop where
  | val {d : D} {v : V} (h : Rep K W' H' d v) : Ret K W ρ σ W' H' (.val d) v
  | new {d : D} {a : Addr} {o : HO} (h : W' a) (n : ¬ (W a ∧ ¬ Own ρ σ a)) (n' : ¬ zvC ρ σ a) (e : H' a = some o) (r : ORep K W' H' d o) : Ret K W ρ σ W' H' (.obj true d) (.ref a)
noncomputable def tE (K : PySem.W.Frag) (fn : Nat → List D → Option SV) (c : E) : TE := fun σ H Q => ∃ W ρ r, R K W ρ σ H ∧ evE fn c ρ = some r ∧ ∀ v H', Same H H' → Res K W H H' r v → Q v H'
noncomputable def tV (K : PySem.W.Frag) (fn : Nat → List D → Option SV) (c : E) : TE := fun σ H Q => ∃ W ρ r, R K W ρ σ H ∧ evE fn c ρ = some r ∧ ∀ v H', Same H H' → Frz K W H' r v → Q v H'
noncomputable def tVs (K : PySem.W.Frag) (fn : Nat → List D → Option SV) (cs : Es) : TA := fun σ H Q => ∃ W ρ rs, R K W ρ σ H ∧ zbV fn cs ρ = some rs ∧ ∀ vs H', Same H H' → Paired (Frz K W H') rs vs → Q vs H'
noncomputable def tT (K : PySem.W.Frag) (fn : Nat → List D → Option SV) (c : E) : TT := fun σ H Q => ∃ W ρ b, R K W ρ σ H ∧ evT fn c ρ = some b ∧ ∀ H', Same H H' → Q b H'
noncomputable def FlOk (K : PySem.W.Frag) (W : Addr → Prop) (ρ : LW.Env) (σ : St) (W' : Addr → Prop) (ρ' : LW.Env) (σ' : St) (H' : Hp) (D : Ends) : Fl → Prop
  | .nx => D.nx σ' H'
  | .br => D.bk σ' H'
  | .ct => D.ct σ' H'
  | .rt r => ∀ v, Ret K W ρ σ W' H' r v → D.rt v H'
noncomputable def tSs (K : PySem.W.Frag) (ex : LW.Env → Option (Fl × LW.Env)) : TS := fun D σ H => ∃ W ρ x, R K W ρ σ H ∧ ex ρ = some x ∧ ∀ W' σ' H', SPost K W ρ σ H W' x.2 σ' H' → FlOk K W ρ σ W' x.2 σ' H' D x.1
theorem _root_.L2.PE.imp {X : Cx} {e : Expr} {t t' : TE} (h : PE X e t) (i : ∀ σ H Q, t' σ H Q → t σ H Q) : PE X e t' := fun pins s σ H Q I q => h pins s σ H Q I (i σ H Q q)
theorem _root_.L2.PT.imp {X : Cx} {e : Expr} {t t' : TT} (h : PT X e t) (i : ∀ σ H Q, t' σ H Q → t σ H Q) : PT X e t' := fun pins s σ H Q I q => h pins s σ H Q I (i σ H Q q)
theorem _root_.L2.PW.imp {X : Cx} {e : Expr} {t t' : TT} (h : PW X e t) (i : ∀ σ H Q, t' σ H Q → t σ H Q) : PW X e t' := fun wh pins s σ H Q I q => h wh pins s σ H Q I (i σ H Q q)
theorem _root_.L2.PA.imp {X : Cx} {e : List Expr} {t t' : TA} (h : PA X e t) (i : ∀ σ H Q, t' σ H Q → t σ H Q) : PA X e t' := fun pos pins s σ H Q I q => h pos pins s σ H Q I (i σ H Q q)
theorem _root_.L2.PS.imp {X : Cx} {e : Stmt} {t t' : TS} (h : PS X e t) (i : ∀ D σ H, t' D σ H → t D σ H) : PS X e t' := fun pins s σ H D I q => h pins s σ H D I (i D σ H q)
theorem _root_.L2.PSs.imp {X : Cx} {e : List Stmt} {t t' : TS} (h : PSs X e t) (i : ∀ D σ H, t' D σ H → t D σ H) : PSs X e t' := fun pins s σ H D I q => h pins s σ H D I (i D σ H q)
end L2.LW
set_option maxHeartbeats 4000000
namespace L2.LW
open PySem PySem.Spec PyProof.Rows
noncomputable def VR (K : PySem.W.Frag) (f : List D → Option SV) (vs : List V) (H : Hp) (Q : VK) : Prop :=
  ∃ W ds r, Wf W H ∧ Paired (Sees K W H) ds vs ∧ f ds = some r ∧ ∀ v H', Same H H' → Res K W H H' r v → Q v H'
noncomputable def VR2 (K : PySem.W.Frag) (f : List D → Option SV) : R2 := fun x y H Q => VR K f [x, y] H Q
noncomputable def VR1 (K : PySem.W.Frag) (f : List D → Option SV) : V → Hp → VK → Prop := fun x H Q => VR K f [x] H Q
theorem pr1 {α β : Type} {F : α → β → Prop} {ds : List α} {x : β} (h : Paired F ds [x]) : ∃ d, ds = [d] ∧ F d x := by
  cases h with
  | cons h t => cases t; exact ⟨_, rfl, h⟩
theorem pr2 {α β : Type} {F : α → β → Prop} {ds : List α} {x y : β} (h : Paired F ds [x, y]) : ∃ d e, ds = [d, e] ∧ F d x ∧ F e y := by
  cases h with
  | cons h t =>
    obtain ⟨e, rfl, h2⟩ := pr1 t
    exact ⟨_, e, rfl, h, h2⟩
mutual
noncomputable def zbX : D → PyData
  | .int i => .int i
  | .bl b => .bool b
  | .non => .none
  | .str x => .str x
  | .tup l => .tuple (zbY l)
  | .lst l => .list (zbY l)
  | .dct _ _ _ => .dict []
noncomputable def zbY : List D → List PyData
  | [] => []
  | x :: xs => zbX x :: zbY xs
end
mutual
theorem zdX : ∀ d e : D, PyData.eqv (zbX d) (zbX e) = eqD d e
  | .int a, e => by cases e <;> simp [zbX, PyData.eqv, eqD]
  | .bl a, e => by cases e <;> simp [zbX, PyData.eqv, eqD]
  | .non, e => by cases e <;> simp [zbX, PyData.eqv, eqD]
  | .str a, e => by cases e <;> simp [zbX, PyData.eqv, eqD]
  | .tup l, e => by
    cases e with
    | tup m => simp only [zbX, PyData.eqv, eqD]; exact zdl l m
    | _ => simp [zbX, PyData.eqv, eqD]
  | .lst l, e => by
    cases e with
    | lst m => simp only [zbX, PyData.eqv, eqD]; exact zdl l m
    | _ => simp [zbX, PyData.eqv, eqD]
  | .dct t a b, e => by cases e <;> simp [zbX, PyData.eqv, eqD]
theorem zdl : ∀ ds es : List D, PyData.eqvAll (zbY ds) (zbY es) = zfe ds es
  | [], [] => by simp [zbY, PyData.eqvAll, zfe]
  | [], _ :: _ => by simp [zbY, PyData.eqvAll, zfe]
  | _ :: _, [] => by simp [zbY, PyData.eqvAll, zfe]
  | x :: xs, y :: ys => by simp only [zbY, PyData.eqvAll, zfe]; rw [zdX x y, zdl xs ys]
end
theorem zea {n : Nat} (ih : ∀ d, zbz n d = true → (zbX d).canLay0 = true ∧ (zbX d).depth ≤ n) : ∀ l : List D, l.all (zbz n) = true → PyData.canLayAll0 (zbY l) = true ∧ PyData.depthAll (zbY l) ≤ n
  | [], _ => by simp [zbY, PyData.canLayAll0, PyData.depthAll]
  | x :: xs, h => by
    simp only [List.all_cons, Bool.and_eq_true] at h
    obtain ⟨h1, h2⟩ := ih x h.1
    obtain ⟨h3, h4⟩ := zea ih xs h.2
    refine ⟨by simp [zbY, PyData.canLayAll0, h1, h3], ?_⟩
    simp only [zbY, PyData.depthAll]
    omega
theorem zbf : ∀ (n : Nat) (d : D), zbz n d = true → (zbX d).canLay0 = true ∧ (zbX d).depth ≤ n
  | _, .int _, _ => by simp [zbX, PyData.canLay0, PyData.depth]
  | _, .bl _, _ => by simp [zbX, PyData.canLay0, PyData.depth]
  | _, .non, _ => by simp [zbX, PyData.canLay0, PyData.depth]
  | _, .str _, h => by simp [zbz] at h
  | 0, .dct _ _ _, h => by simp [zbz] at h
  | _ + 1, .dct _ _ _, h => by simp [zbz] at h
  | 0, .tup _, h => by simp [zbz] at h
  | 0, .lst _, h => by simp [zbz] at h
  | n + 1, .tup l, h => by
    obtain ⟨h1, h2⟩ := zea (zbf n) l (by simpa [zbz] using h)
    exact ⟨by simpa [zbX, PyData.canLay0] using h1, by simp only [zbX, PyData.depth]; omega⟩
  | n + 1, .lst l, h => by
    obtain ⟨h1, h2⟩ := zea (zbf n) l (by simpa [zbz] using h)
    exact ⟨by simpa [zbX, PyData.canLay0] using h1, by simp only [zbX, PyData.depth]; omega⟩
theorem zeb (d : D) : ∀ l : List D, ((zbY l).any fun y => PyData.eqv y (zbX d)) = l.any fun y => eqD y d
  | [] => by simp [zbY]
  | x :: xs => by simp only [zbY, List.any_cons]; rw [zdX x d, zeb d xs]
section
variable {X : Cx} {pins : List (Addr × Obj)} {σ : St} {H : Hp} {s : Shared} {W : Addr → Prop}
mutual
theorem Rep.reads (I : Inv X pins σ H s) : ∀ {n : Nat} {d : D} {x : V} {v : Value}, zbz n d = true → Rep X.K W H d x → RelV x v → ∃ as, Reads s.heap v (zbX d) as
  | _, _, _, _, _, .int i, r => by obtain ⟨t, rfl⟩ := r; exact ⟨_, .int _ _⟩
  | _, _, _, _, _, .bl b, r => by cases r; exact ⟨_, .bool _⟩
  | _, _, _, _, _, .non, r => by cases r; exact ⟨_, .none⟩
  | _, _, _, _, _, .str x, r => by obtain ⟨t, rfl⟩ := r; exact ⟨_, .str _ _⟩
  | 0, _, _, _, n, .tup h rs, r => by simp [zbz] at n
  | 0, _, _, _, n, .lst h rs, r => by simp [zbz] at n
  | _ + 1, _, _, _, n, .tup h rs, r => by
    cases r
    obtain ⟨its, rv, ⟨o, ho, hc, m, hd⟩, hz⟩ := I.tuple (.of h)
    obtain ⟨as, q⟩ := Reps.reads I (by simpa [zbz] using n) rs rv
    exact ⟨as, by simp only [zbX]; exact .tuple ho hc hd (by simpa using q)⟩
  | _ + 1, _, _, _, n, .lst h rs, r => by
    cases r
    obtain ⟨its, rv, ⟨o, m, ho, hc, _, hd⟩, hz⟩ := I.list (show SqL X.K H _ _ from h.elim (fun z => .inl z.2) fun z => .inr z)
    obtain ⟨as, q⟩ := Reps.reads I (by simpa [zbz] using n) rs rv
    exact ⟨_, by simp only [zbX]; exact .list ho hc hd (by simpa using q)⟩
  | 0, _, _, _, n, .dK _ _ _ _, r => by simp [zbz] at n
  | 0, _, _, _, n, .dT _ _ _ _, r => by simp [zbz] at n
  | _ + 1, _, _, _, n, .dK _ _ _ _, r => by simp [zbz] at n
  | _ + 1, _, _, _, n, .dT _ _ _ _, r => by simp [zbz] at n
theorem Reps.reads (I : Inv X pins σ H s) : ∀ {n : Nat} {ds : List D} {xs : List V} {vs : List Value}, ds.all (zbz n) = true → Reps X.K W H ds xs → Vals xs vs → ∃ as, ReadsAll s.heap vs (zbY ds) as
  | _, _, _, _, _, .nil, r => by cases r; exact ⟨_, by simp only [zbY]; exact .nil⟩
  | _, _, _, _, n, .cons h t, r => by
    cases r with
    | cons r1 r2 =>
      simp only [List.all_cons, Bool.and_eq_true] at n
      obtain ⟨as, q1⟩ := Rep.reads I n.1 h r1
      obtain ⟨bs, q2⟩ := Reps.reads I n.2 t r2
      exact ⟨_, by simp only [zbY]; exact .cons q1 q2⟩
end
theorem Sees.reads (I : Inv X pins σ H s) {n : Nat} {d : D} {x : V} {v : Value} (hn : zbz n d = true) (h : Sees X.K W H d x) (r : RelV x v) : ∃ as, Reads s.heap v (zbX d) as := by
  rcases h with h | ⟨a, o, rfl, e, rs⟩
  · exact h.reads I hn r
  · cases r
    cases rs with
    | lst rs =>
      obtain ⟨its, rv, ⟨o, m, ho, hc, _, hd⟩, hz⟩ := I.list (show SqL X.K H _ _ from .of e)
      cases n with
      | zero => simp [zbz] at hn
      | succ n =>
        obtain ⟨as, q⟩ := rs.reads I (n := n) (by simpa [zbz] using hn) rv
        exact ⟨_, by simp only [zbX]; exact .list ho hc hd (by simpa using q)⟩
    | dK l r => cases n <;> simp [zbz] at hn
    | dT l r => cases n <;> simp [zbz] at hn
theorem Sees.readsL (I : Inv X pins σ H s) {n : Nat} {l : List D} {x : V} {v : Value} (hn : l.all (zbz n) = true) (h : Sees X.K W H (.lst l) x) (r : RelV x v) : ∃ as, Reads s.heap v (zbX (.lst l)) as :=
  h.reads I (n := n + 1) (by simpa [zbz] using hn) r
theorem Sees.readsT (I : Inv X pins σ H s) {n : Nat} {l : List D} {x : V} {v : Value} (hn : l.all (zbz n) = true) (h : Sees X.K W H (.tup l) x) (r : RelV x v) : ∃ as, Reads s.heap v (zbX (.tup l)) as :=
  h.reads I (n := n + 1) (by simpa [zbz] using hn) r
end
theorem za6 {H : Hp} {p : Addr} (h : H p = Option.none) (o : HO) : Same H (upd H p o) := fun b u q => by rw [za4 (zbG q h)]; exact q
theorem zec {K : PySem.W.Frag} {W : Addr → Prop} {H : Hp} {p : Addr} {ds : List D} {xs : List V} (hp : H p = Option.none) (r : Reps K W H ds xs) : Res K W H (upd H p (.lst xs)) (.lis true ds) (.ref p) := by
  refine .new hp zbx (.lst (r.ext ⟨fun a o h _ => za6 hp _ a o h, fun a xs h => za6 hp _ a _ h, fun a o u h => za6 hp _ a _ h, fun a w => ?_⟩))
  rcases w with w | rfl
  · exact .inl w
  · exact .inr hp
theorem zff {K : PySem.W.Frag} {W : Addr → Prop} {H : Hp} {p : Addr} {ds : List D} {xs : List V} (hp : H p = Option.none) (r : Reps K W H ds xs) : Res K W H (upd H p (.tup xs)) (.val (.tup ds)) (.ref p) :=
  .val (.tup zbx (r.ext (.same (za6 hp _))))
section
variable {X : Cx}
theorem zhl : line = sizeLine := by rw [sizeLine_eq]; rfl
theorem zhm : ∀ {l : List D} {ns : List Int}, ints? l = some ns → l = ns.map D.int
  | [], ns, e => by simp [ints?] at e; subst e; rfl
  | d :: r, ns, e => by
    cases d with
    | int i =>
      simp only [ints?, jo2] at e
      obtain ⟨ms, e1, rfl⟩ := e
      rw [zhm e1]; rfl
    | _ => simp [ints?] at e
theorem zjT (ns : List Int) : (ns.map Sum.inl).map kV = ns.map V.int := by
  rw [List.map_map]; rfl
theorem zed : ∀ (a b : List Int), zfe (a.map D.int) (b.map D.int) = decide (a = b)
  | [], [] => by simp [zfe]
  | [], _ :: _ => by simp [zfe]
  | _ :: _, [] => by simp [zfe]
  | x :: xs, y :: ys => by
    rw [Bool.eq_iff_iff]
    simp [zfe, eqD, zed xs ys]
theorem zle {a b : List Int} (h : (a.map Sum.inl : List Key) = b.map Sum.inl) : a = b := (List.map_inj_right (fun _ _ z => Sum.inl.inj z)).mp h
theorem zhQ (k d : D) (ks : List D) : kix (d :: ks) k = if eqD d k then some 0 else (kix ks k).map (· + 1) := by
  unfold kix; rw [List.findIdx?_cons]
theorem zjU : ∀ {ns : List Int} {ys : List V}, ns.length = ys.length → ∀ i : Int, zeO (znq ns ys) (.inl i) = (kix (ns.map D.int) (.int i)).bind fun j => ys[j]?
  | [], [], _, i => rfl
  | n :: ns, y :: ys, h, i => by
    have ih := zjU (ns := ns) (ys := ys) (by simpa using h) i
    show zeO ((Sum.inl n, y) :: znq ns ys) (.inl i) = _
    rw [List.map_cons, zhQ]
    by_cases e : n = i
    · rw [zcY (by simp [e])]; simp [eqD, e]
    · rw [zcZ (by simp [e]), ih]
      have : eqD (.int n) (.int i) = false := by simp [eqD, e]
      rw [this]
      cases kix (ns.map D.int) (.int i) <;> simp
theorem zjV : ∀ {ns : List (List Int)} {ys : List V}, ns.length = ys.length → ∀ i : List Int, zeO (znr ns ys) (i.map Sum.inl) = (kix (ns.map kT) (kT i)).bind fun j => ys[j]?
  | [], [], _, i => rfl
  | n :: ns, y :: ys, h, i => by
    have ih := zjV (ns := ns) (ys := ys) (by simpa using h) i
    show zeO ((n.map Sum.inl, y) :: znr ns ys) (i.map Sum.inl) = _
    rw [List.map_cons, zhQ]
    by_cases e : n = i
    · rw [zcY (by simp [e])]
      have : eqD (kT n) (kT i) = true := by simp [kT, eqD, zed, e]
      rw [this]; rfl
    · rw [zcZ (fun z => e (zle z)), ih]
      have : eqD (kT n) (kT i) = false := by simp [kT, eqD, zed, e]
      rw [this]
      cases kix (ns.map kT) (kT i) <;> simp
theorem zmD {ks : List D} {k : D} {j : Nat} (h : kix ks k = some j) : j < ks.length := by
  unfold kix at h
  obtain ⟨h1, _⟩ := List.findIdx?_eq_some_iff_getElem.mp h
  exact h1
theorem zns {ns : List Int} {ys : List V} (h : ns.length = ys.length) {i : Int} : (zeO (znq ns ys) (.inl i)).isSome = (kix (ns.map D.int) (.int i)).isSome := by
  rw [zjU h]
  cases e : kix (ns.map D.int) (.int i) with
  | none => rfl
  | some j => have := zmD e; simp at this; simp; omega
theorem znt {ns : List (List Int)} {ys : List V} (h : ns.length = ys.length) {i : List Int} : (zeO (znr ns ys) (i.map Sum.inl)).isSome = (kix (ns.map kT) (kT i)).isSome := by
  rw [zjV h]
  cases e : kix (ns.map kT) (kT i) with
  | none => rfl
  | some j => have := zmD e; simp at this; simp; omega
theorem ztd {K : PySem.W.Frag} {W : Addr → Prop} {H : Hp} {ns : List Int} {ys : List V} {vs : List D} {i : Int} {d : D} (h : ns.length = ys.length) (r : Reps K W H vs ys) (e : zo7 (ns.map D.int) vs (.int i) = some d) : ∃ y, zeO (znq ns ys) (.inl i) = some y ∧ Rep K W H d y := by
  unfold zo7 at e
  rw [jo1] at e
  obtain ⟨j, e1, e2⟩ := e
  obtain ⟨y, e3, e4⟩ := r.get e2
  exact ⟨y, by rw [zjU h, e1]; exact e3, e4⟩
theorem zte {K : PySem.W.Frag} {W : Addr → Prop} {H : Hp} {ns : List (List Int)} {ys : List V} {vs : List D} {i : List Int} {d : D} (h : ns.length = ys.length) (r : Reps K W H vs ys) (e : zo7 (ns.map kT) vs (kT i) = some d) : ∃ y, zeO (znr ns ys) (i.map Sum.inl) = some y ∧ Rep K W H d y := by
  unfold zo7 at e
  rw [jo1] at e
  obtain ⟨j, e1, e2⟩ := e
  obtain ⟨y, e3, e4⟩ := r.get e2
  exact ⟨y, by rw [zjV h, e1]; exact e3, e4⟩
theorem zbI : OpR X (binaryOp .Add) (VR2 X.K (zao .add)) := by
  rintro pins s σ H x y v u Q I rx ry ⟨W, ds, r, wf, hs, hf, q⟩
  obtain ⟨d, e, rfl, h1, h2⟩ := pr2 hs
  replace hf : zq5 [d, e] = some r := hf
  unfold zq5 at hf
  split at hf
  · rename_i a b z; cases z; cases hf
    cases h1.int; cases h2.int
    exact zoS pins s σ H _ _ v u Q I rx ry ⟨_, _, rfl, rfl, q _ H (.refl H) (.val (.int _))⟩
  · rename_i a b z; cases z
    split at hf
    · rename_i hl
      cases hf
      obtain ⟨p, xs, rfl, hp, rp⟩ := h1.lst
      obtain ⟨p2, xs2, rfl, hp2, rp2⟩ := h2.lst
      cases rx; cases ry
      obtain ⟨its, rv, ⟨⟨c1, d1, da1, sl1⟩, n, ho, hc, hdd, hd⟩, hz⟩ := I.list hp
      obtain ⟨its2, rv2, ⟨⟨c2, d2, da2, sl2⟩, n2, ho2, hc2, hdd2, hd2⟩, hz2⟩ := I.list hp2
      simp only at hc hd hdd hc2 hd2 hdd2
      subst hc hd hdd hc2 hd2 hdd2
      have l1 := rv.length
      have l2 := rv2.length
      have l3 := rp.length
      have l4 := rp2.length
      have le := zhl
      refine concat_meets ⟨_, ho, rfl⟩ ⟨_, ho2, rfl⟩ noFill_list_add seq_list_add PySem.F.slot_list_add PySem.F.entry_list_add (PySem.F.args_list_add_2 _ _) (list_addW p p2 its.toArray its2.toArray n n2 Option.none Option.none sl1 sl2 (by simp; omega)) ⟨ho, ho2, ?_⟩
      have e : its.toArray ++ its2.toArray = (its ++ its2).toArray := by simp
      rw [e]
      exact ⟨.ref _, _, I.lnew (t' := s.toks) (rv.append rv2) (by rw [List.length_append]; omega), rfl, q _ _ (za6 I.fresh _) (zec I.fresh (rp.append rp2))⟩
    · cases hf
  · cases hf
theorem zgj : OpR X (binaryOp .Sub) (VR2 X.K (zao .sub)) := by
  rintro pins s σ H x y v u Q I rx ry ⟨W, ds, r, wf, hs, hf, q⟩
  obtain ⟨d, e, rfl, h1, h2⟩ := pr2 hs
  replace hf : zsT [d, e] = some r := hf
  unfold zsT at hf
  split at hf
  · rename_i a b z; cases z; cases hf
    cases h1.int; cases h2.int
    exact zoT pins s σ H _ _ v u Q I rx ry ⟨_, _, rfl, rfl, q _ H (.refl H) (.val (.int _))⟩
  · cases hf
theorem zeP : OpR X (binaryOp .Mult) (VR2 X.K (zao .mul)) := by
  rintro pins s σ H x y v u Q I rx ry ⟨W, ds, r, wf, hs, hf, q⟩
  obtain ⟨d, e, rfl, h1, h2⟩ := pr2 hs
  replace hf : zq6 [d, e] = some r := hf
  unfold zq6 at hf
  split at hf
  · rename_i a b z; cases z
    split at hf
    · rename_i hc
      cases hf
      cases h1.int; cases h2.int
      exact zoU pins s σ H _ _ v u Q I rx ry ⟨_, _, rfl, rfl, hc, q _ H (.refl H) (.val (.int _))⟩
    · cases hf
  · cases hf
theorem znu : OpR X (binaryOp .FloorDiv) (VR2 X.K (zao .fdiv)) := by
  rintro pins s σ H x y v u Q I rx ry ⟨W, ds, r, wf, hs, hf, q⟩
  obtain ⟨d, e, rfl, h1, h2⟩ := pr2 hs
  replace hf : zk7 [d, e] = some r := hf
  unfold zk7 at hf
  split at hf
  · rename_i a b z; cases z
    split at hf
    · rename_i hc
      cases hf
      cases h1.int; cases h2.int
      exact zm1 pins s σ H _ _ v u Q I rx ry ⟨_, _, rfl, rfl, hc, q _ H (.refl H) (.val (.int _))⟩
    · cases hf
  · cases hf
theorem zeQ : OpR X (binaryOp .Mod) (VR2 X.K (zao .mod)) := by
  rintro pins s σ H x y v u Q I rx ry ⟨W, ds, r, wf, hs, hf, q⟩
  obtain ⟨d, e, rfl, h1, h2⟩ := pr2 hs
  replace hf : zq7 [d, e] = some r := hf
  unfold zq7 at hf
  split at hf
  · rename_i a b z; cases z
    split at hf
    · rename_i hc
      cases hf
      cases h1.int; cases h2.int
      exact zoV pins s σ H _ _ v u Q I rx ry ⟨_, _, rfl, rfl, hc, q _ H (.refl H) (.val (.int _))⟩
    · cases hf
  · cases hf
theorem zmE : UnR X (unaryOp .USub) (VR1 X.K (zao .neg)) := by
  rintro pins s σ H x v Q I rx ⟨W, ds, r, wf, hs, hf, q⟩
  obtain ⟨d, rfl, h1⟩ := pr1 hs
  replace hf : zsU [d] = some r := hf
  unfold zsU at hf
  split at hf
  · rename_i a z; cases z; cases hf
    cases h1.int
    exact zoW pins s σ H _ v Q I rx ⟨_, rfl, q _ H (.refl H) (.val (.int _))⟩
  · cases hf
theorem zpt {A : Around} (hu : A.units + 64 < cLine) {d e : D} (h : zbz 8 d = true) : A.units + min (zbX d).depth (zbX e).depth < cLine := by
  have h1 := (zbf 8 d h).2
  have h2 : min (zbX d).depth (zbX e).depth ≤ (zbX d).depth := Nat.min_le_left _ _
  omega
theorem zcj (hu : X.A.units + 64 < cLine) : OpR X (compareOp .Eq) (VR2 X.K (zao .eq)) := by
  rintro pins s σ H x y v u Q I rx ry ⟨W, ds, r, wf, hs, hf, q⟩
  obtain ⟨d, e, rfl, h1, h2⟩ := pr2 hs
  replace hf : pEq [d, e] = some r := hf
  simp only [pEq] at hf
  split at hf
  · rename_i hc
    rw [Bool.and_eq_true] at hc
    cases hf
    obtain ⟨as, ra⟩ := h1.reads I hc.1 rx
    obtain ⟨bs, rb⟩ := h2.reads I hc.2 ry
    refine SeqAt.compareEq_reads ra rb (zbf 8 d hc.1).1 (zbf 8 e hc.2).1 (zpt hu hc.1) ?_
    rw [zdX]
    exact ⟨.bl _, H, I, rfl, q _ H (.refl H) (.val (.bl _))⟩
  · cases hf
theorem ztf (hu : X.A.units + 64 < cLine) : OpR X (compareOp .NotEq) (VR2 X.K (zao .ne)) := by
  rintro pins s σ H x y v u Q I rx ry ⟨W, ds, r, wf, hs, hf, q⟩
  obtain ⟨d, e, rfl, h1, h2⟩ := pr2 hs
  replace hf : pNe [d, e] = some r := hf
  simp only [pNe] at hf
  split at hf
  · rename_i hc
    rw [Bool.and_eq_true] at hc
    cases hf
    obtain ⟨as, ra⟩ := h1.reads I hc.1 rx
    obtain ⟨bs, rb⟩ := h2.reads I hc.2 ry
    refine SeqAt.compareNe_reads ra rb (zbf 8 d hc.1).1 (zbf 8 e hc.2).1 (zpt hu hc.1) ?_
    rw [zdX]
    exact ⟨.bl _, H, I, rfl, q _ H (.refl H) (.val (.bl _))⟩
  · cases hf
theorem zpu {A : Around} (hu : A.units + 64 < cLine) {d : D} {l : List PyData} (h : zbz 8 d = true) : A.units + 1 + min (PyData.depthAll l) (zbX d).depth < cLine := by
  have h1 := (zbf 8 d h).2
  have h2 : min (PyData.depthAll l) (zbX d).depth ≤ (zbX d).depth := Nat.min_le_right _ _
  omega
theorem zpv (hu : X.A.units + 64 < cLine) : OpR X (compareOp .NotIn) (VR2 X.K (zao .nin)) := by
  rintro pins s σ H x y v u Q I rx ry ⟨W, ds, r, wf, hs, hf, q⟩
  obtain ⟨d, e, rfl, h1, h2⟩ := pr2 hs
  replace hf : zom [d, e] = some r := hf
  unfold zom at hf
  split at hf
  · rename_i x t ks vs z; cases z
    split at hf
    · rename_i hk
      cases hf
      cases t with
      | false =>
        cases d with
        | int i =>
          cases h1.int
          obtain ⟨a, ns, ys, rfl, rfl, hH, hl, _⟩ := h2.dK
          cases ry
          exact zjF (by omega) I (DGet.k (k := .inl i) hH) rx fun s' I' => ⟨.bl _, H, I', rfl, q _ H (.refl H) (.val (by rw [zns hl]; exact .bl _))⟩
        | _ => simp [zce] at hk
      | true =>
        cases d with
        | tup l =>
          obtain ⟨ms, hms⟩ : ∃ ms, ints? l = some ms := by simp only [zce, Option.isSome_iff_exists] at hk; exact hk
          obtain ⟨b, xs, rfl, hb, rp⟩ := h1.tupH
          obtain ⟨a, ns, ys, rfl, rfl, hH, hl, _⟩ := h2.dT
          cases ry
          have e1 := rp.ofInts hms
          have e2 := zhm hms
          subst e1 e2
          exact zjF (by omega) I (DGet.t (k := ms.map Sum.inl) hH (by rw [hb, zjT])) rx fun s' I' => ⟨.bl _, H, I', rfl, q _ H (.refl H) (.val (by rw [znt hl]; exact .bl _))⟩
        | _ => simp [zce] at hk
    · cases hf
  · rename_i d l z; cases z
    split at hf
    · rename_i hc
      rw [Bool.and_eq_true] at hc
      cases hf
      obtain ⟨as, ra⟩ := h1.reads I hc.1 rx
      obtain ⟨bs, rb⟩ := h2.readsT I hc.2 ry
      simp only [zbX] at rb
      refine SeqAt.notIn_tuple_reads rb ra (zea (zbf 8) l hc.2).1 (zbf 8 d hc.1).1 (zpu hu hc.1) ?_
      rw [zeb]
      exact ⟨.bl _, H, I, rfl, q _ H (.refl H) (.val (.bl _))⟩
    · cases hf
  · rename_i d l z; cases z
    split at hf
    · rename_i hc
      rw [Bool.and_eq_true] at hc
      cases hf
      obtain ⟨as, ra⟩ := h1.reads I hc.1 rx
      obtain ⟨bs, rb⟩ := h2.readsL I hc.2 ry
      simp only [zbX] at rb
      refine SeqAt.notIn_list_reads rb ra (zea (zbf 8) l hc.2).1 (zbf 8 d hc.1).1 (zpu hu hc.1) ?_
      rw [zeb]
      exact ⟨.bl _, H, I, rfl, q _ H (.refl H) (.val (.bl _))⟩
    · cases hf
  · cases hf
theorem zhR : ∀ x y : List Int, LW.lexLt x y = HT.lexLt x y
  | [], [] => rfl
  | [], _ :: _ => rfl
  | _ :: _, [] => rfl
  | a :: x, b :: y => by rw [HT.lexLt_cons, LW.lexLt, zhR x y]
theorem znv (hu : X.A.units + 64 < cLine) : OpR X (compareOp .Lt) (VR2 X.K (zao .lt)) := by
  rintro pins s σ H x y v u Q I rx ry ⟨W, ds, r, wf, hs, hf, q⟩
  obtain ⟨d, e, rfl, h1, h2⟩ := pr2 hs
  replace hf : pLt [d, e] = some r := hf
  unfold pLt at hf
  split at hf
  · rename_i a b z; cases z; cases hf
    cases h1.int; cases h2.int
    exact zsF pins s σ H _ _ v u Q I rx ry ⟨_, _, rfl, rfl, q _ H (.refl H) (.val (.bl _))⟩
  · rename_i a b z; cases z
    simp only [jo1] at hf
    obtain ⟨ns, e1, ms, e2, hf⟩ := hf
    cases hf
    obtain ⟨p, xs, rfl, hp, rp⟩ := h1.tup
    obtain ⟨p2, xs2, rfl, hp2, rp2⟩ := h2.tup
    rw [rp.ofInts e1] at hp
    rw [rp2.ofInts e2] at hp2
    refine zo2 (by omega) pins s σ H _ _ v u Q I rx ry ⟨_, _, ns, ms, rfl, rfl, hp, hp2, ?_⟩
    rw [← zhR]
    exact q _ H (.refl H) (.val (.bl _))
  · cases hf
theorem zlf : OpR X (compareOp .LtE) (VR2 X.K (zao .le)) := by
  rintro pins s σ H x y v u Q I rx ry ⟨W, ds, r, wf, hs, hf, q⟩
  obtain ⟨d, e, rfl, h1, h2⟩ := pr2 hs
  replace hf : pLe [d, e] = some r := hf
  unfold pLe at hf
  split at hf
  · rename_i a b z; cases z; cases hf
    cases h1.int; cases h2.int
    exact zsG pins s σ H _ _ v u Q I rx ry ⟨_, _, rfl, rfl, q _ H (.refl H) (.val (.bl _))⟩
  · cases hf
theorem ztg : OpR X (compareOp .Gt) (VR2 X.K (zao .gt)) := by
  rintro pins s σ H x y v u Q I rx ry ⟨W, ds, r, wf, hs, hf, q⟩
  obtain ⟨d, e, rfl, h1, h2⟩ := pr2 hs
  replace hf : pGt [d, e] = some r := hf
  unfold pGt at hf
  split at hf
  · rename_i a b z; cases z; cases hf
    cases h1.int; cases h2.int
    exact zsH pins s σ H _ _ v u Q I rx ry ⟨_, _, rfl, rfl, q _ H (.refl H) (.val (.bl _))⟩
  · cases hf
theorem zjW {K : PySem.W.Frag} {W : Addr → Prop} {H : Hp} {ds : List D} {xs : List V} {i : Int} {d : D} (r : Reps K W H ds xs) (h : LW.atI ds i = some d) : ∃ x, L2.atI xs i = some x ∧ Rep K W H d x := by
  unfold LW.atI at h
  unfold L2.atI
  rw [jo1] at h
  obtain ⟨j, h1, h2⟩ := h
  obtain ⟨x, e, q⟩ := r.get h2
  refine ⟨x, ?_, q⟩
  rw [← r.length]
  rw [jo1]
  exact ⟨j, h1, e⟩
theorem zjX {value slice : Expr} {pins : List (Addr × Obj)} {s : Shared} {σ : St} {H : Hp} {a : Addr} {y v : V} {u : Value} {Q : VK} (hu : X.A.units + 64 < cLine) (I : Inv X pins σ H s) (g : DGet H a y (some v)) (ry : RelV y u) (q : Q v H)
    (hs : subscripted slice false (.ref a) u = operate [.ref a, u] (getItem (.ref a) u)) : wpAny (model X.prog X.w) X.A (subscriptTail value slice (.ref a) u) (EP X pins σ Q) X.xe s := by
  have hT := zhi I g
  unfold subscriptTail
  refine wpAny_bind ?_
  rw [getitemInPython_of_ne hT.not_modules]
  refine wpAny_bind (wpAny_specialOf hT PySem.F.slot_dict_getitem.lookup ?_)
  have fin : wpAny (model X.prog X.w) X.A (subscripted slice false (.ref a) u) (fun r s₃ => wpAny (model X.prog X.w) X.A (letTemporaryGo value (.ref a) r >>= fun _ => pure r) (EP X pins σ Q) X.xe s₃) X.xe s := by
    rw [hs]
    refine wpAny_operating (wpAny_mono (zjE (Q := EP X pins σ Q) (by omega) I g ry fun w' s' I' rv => ⟨v, H, I', rv, q⟩) (fun r s₃ h₃ => wpAny_bind (wpAny_letTemporaryGo (wpAny_pure h₃))) fun _ _ x => x)
  first
    | exact wpAny_pure (wpAny_bind fin)
    | exact wpAny_bind (wpAny_pure (wpAny_bind fin))
    | exact wpAny_pure (wpAny_bind (wpAny_pure (wpAny_bind fin)))
    | exact wpAny_bind (wpAny_bind (wpAny_pure fin))
theorem zpw (hu : X.A.units + 64 < cLine) : IxR X (VR2 X.K (zao .idx)) := by
  rintro value slice pins s σ H x y v u Q I rx ry ⟨W, ds, r, wf, hs, hf, q⟩ hsub
  obtain ⟨d, e, rfl, h1, h2⟩ := pr2 hs
  replace hf : zsV [d, e] = some r := hf
  unfold zsV at hf
  split at hf
  · rename_i t ks vs k z; cases z
    split at hf
    · rename_i hk
      rw [jo2] at hf
      obtain ⟨d', e1, rfl⟩ := hf
      cases t with
      | false =>
        cases e with
        | int i =>
          cases h2.int
          obtain ⟨a, ns, ys, rfl, rfl, hH, hl, rp⟩ := h1.dK
          cases rx
          obtain ⟨y, e2, ry'⟩ := ztd hl rp e1
          exact zjX hu I (by rw [← e2]; exact DGet.k (k := .inl i) hH) ry (q _ H (.refl H) (.val ry')) hsub
        | _ => simp [zce] at hk
      | true =>
        cases e with
        | tup l =>
          obtain ⟨ms, hms⟩ : ∃ ms, ints? l = some ms := by simp only [zce, Option.isSome_iff_exists] at hk; exact hk
          obtain ⟨b, xs, rfl, hb, rpb⟩ := h2.tupH
          obtain ⟨a, ns, ys, rfl, rfl, hH, hl, rp⟩ := h1.dT
          cases rx
          have z1 := rpb.ofInts hms
          have z2 := zhm hms
          subst z1 z2
          obtain ⟨y, e2, ry'⟩ := zte hl rp e1
          exact zjX hu I (by rw [← e2]; exact DGet.t (k := ms.map Sum.inl) hH (by rw [hb, zjT])) ry (q _ H (.refl H) (.val ry')) hsub
        | _ => simp [zce] at hk
    · cases hf
  · rename_i l i z; cases z
    rw [jo2] at hf
    obtain ⟨d, e1, rfl⟩ := hf
    obtain ⟨p, xs, rfl, hp, rp⟩ := h1.tup
    cases h2.int
    obtain ⟨z, e2, rz⟩ := zjW rp e1
    exact zo3 value slice pins s σ H _ _ v u Q I rx ry ⟨p, xs, i, z, rfl, rfl, hp, e2, q _ H (.refl H) (.val rz)⟩ hsub
  · rename_i l i z; cases z
    rw [jo2] at hf
    obtain ⟨d, e1, rfl⟩ := hf
    obtain ⟨p, xs, rfl, hp, rp⟩ := h1.lst
    cases h2.int
    obtain ⟨z, e2, rz⟩ := zjW rp e1
    exact zm9 value slice pins s σ H _ _ v u Q I rx ry ⟨p, xs, i, z, rfl, rfl, hp, e2, q _ H (.refl H) (.val rz)⟩ hsub
  · cases hf
theorem zhS : CallR X (.builtin "len") (VR X.K (zao .len)) := by
  rintro pins s σ H xs us Q I rv ⟨W, ds, r, wf, hs, hf, q⟩
  replace hf : zsW ds = some r := hf
  unfold zsW at hf
  split at hf
  · cases hf
    cases hs with
    | cons h1 t =>
      cases t
      obtain ⟨p, ys, rfl, hp, rp⟩ := h1.tup
      refine zdE pins s σ H _ us Q I rv ⟨p, ys, rfl, .inr hp, ?_⟩
      rw [← rp.length]
      exact q _ H (.refl H) (.val (.int _))
  · cases hf
    cases hs with
    | cons h1 t =>
      cases t
      obtain ⟨p, ys, rfl, hp, rp⟩ := h1.lst
      refine zdE pins s σ H _ us Q I rv ⟨p, ys, rfl, .inl hp, ?_⟩
      rw [← rp.length]
      exact q _ H (.refl H) (.val (.int _))
  · cases hf
theorem zjY : CallR X (.type "list") (VR X.K (zao .toList)) := by
  rintro pins s σ H xs us Q I rv ⟨W, ds, r, wf, hs, hf, q⟩
  replace hf : zhk ds = some r := hf
  unfold zhk at hf
  split at hf
  · cases hf
    cases hs with
    | cons h1 t =>
      cases t
      obtain ⟨p, ys, rfl, hp, rp⟩ := h1.tup
      exact zdF pins s σ H _ us Q I rv ⟨p, ys, rfl, .inr hp, fun l hl => q _ _ (za6 hl _) (zec hl rp)⟩
  · cases hf
    cases hs with
    | cons h1 t =>
      cases t
      obtain ⟨p, ys, rfl, hp, rp⟩ := h1.lst
      exact zdF pins s σ H _ us Q I rv ⟨p, ys, rfl, .inl hp, fun l hl => q _ _ (za6 hl _) (zec hl rp)⟩
  · cases hf
theorem zhT : CallR X (.type "tuple") (VR X.K (zao .toTup)) := by
  rintro pins s σ H xs us Q I rv ⟨W, ds, r, wf, hs, hf, q⟩
  replace hf : zjJ ds = some r := hf
  unfold zjJ at hf
  split at hf
  · cases hf
    cases hs with
    | cons h1 t =>
      cases t
      obtain ⟨p, ys, rfl, hp, rp⟩ := h1.tupH
      exact zcX pins s σ H _ us Q I rv ⟨p, ys, rfl, .inr ⟨.of hp, q _ H (.refl H) (.val (.tup hp rp))⟩⟩
  · cases hf
    cases hs with
    | cons h1 t =>
      cases t
      obtain ⟨p, ys, rfl, hp, rp⟩ := h1.lst
      exact zcX pins s σ H _ us Q I rv ⟨p, ys, rfl, .inl ⟨hp, fun l hl => q _ _ (za6 hl _) (zff hl rp)⟩⟩
  · cases hf
end
end L2.LW
set_option maxHeartbeats 4000000
namespace L2.LW
open PySem PySem.Spec PyProof.Rows
structure IE (X : Cx) (fn : Nat → List D → Option SV) (e : Expr) (c : E) : Prop where
  h : PE X e (tE X.K fn c)
structure IA (X : Cx) (fn : Nat → List D → Option SV) (es : List Expr) (cs : Es) : Prop where
  h : PA X es (tVs X.K fn cs)
structure IT (X : Cx) (fn : Nat → List D → Option SV) (e : Expr) (c : E) : Prop where
  h : PT X e (tT X.K fn c)
structure IW (X : Cx) (fn : Nat → List D → Option SV) (e : Expr) (c : E) : Prop where
  h : PW X e (tT X.K fn c)
theorem Res.back {K : PySem.W.Frag} {W : Addr → Prop} {H H1 H2 : Hp} {r : SV} {v : V} (h : Res K W H1 H2 r v) (s : Same H H1) : Res K W H H2 r v := by
  cases h with
  | val h => exact .val h
  | new h e r => exact .new (s.free h) e r
  | see h e r => exact .see h e r
theorem R.wf' {K : PySem.W.Frag} {W : Addr → Prop} {ρ : LW.Env} {σ : St} {H H' : Hp} (r : R K W ρ σ H) (s : Same H H') : Wf W H' := (r.same s).wf
theorem zhU {K : PySem.W.Frag} {W : Addr → Prop} {H : Hp} : ∀ {rs : List SV} {vs : List V}, Paired (Frz K W H) rs vs → Paired (Sees K W H) (rs.map zby) vs
  | _, _, .nil => .nil
  | _, _, .cons h t => .cons h.sees (zhU t)
theorem zfg {K : PySem.W.Frag} {W : Addr → Prop} {H : Hp} : ∀ {rs : List SV} {vs : List V} {ds : List D}, Paired (Frz K W H) rs vs → zg9 rs = some ds → Reps K W H ds vs
  | _, _, _, .nil, e => by simp [zg9] at e; subst e; exact .nil
  | _, _, _, .cons h t, e => by
    simp only [zg9, jo1, jo2] at e
    obtain ⟨d, e1, ds, e2, rfl⟩ := e
    exact .cons (h.toD e1) (zfg t e2)
section
variable {es : List Expr} {env : PySem.Env}
theorem zab {a b} : starEach (.Name a b :: es) env = (false, eval (.Name a b) env) :: starEach es env := rfl
theorem zac {a b c} : starEach (.Constant a b c :: es) env = (false, eval (.Constant a b c) env) :: starEach es env := rfl
theorem zat {a b c d} : starEach (.BinOp a b c d :: es) env = (false, eval (.BinOp a b c d) env) :: starEach es env := rfl
theorem zgk {a b c} : starEach (.UnaryOp a b c :: es) env = (false, eval (.UnaryOp a b c) env) :: starEach es env := rfl
theorem za8 {a b c d} : starEach (.Call a b c d :: es) env = (false, eval (.Call a b c d) env) :: starEach es env := rfl
theorem zax {a b c} : starEach (.Subscript a b c :: es) env = (false, eval (.Subscript a b c) env) :: starEach es env := rfl
theorem zaB {a b c} : starEach (.Tuple a b c :: es) env = (false, eval (.Tuple a b c) env) :: starEach es env := rfl
theorem zjZ {a b} : starEach (.List a b :: es) env = (false, eval (.List a b) env) :: starEach es env := rfl
theorem zbC {a b c d} : starEach (.ListComp a b c d :: es) env = (false, eval (.ListComp a b c d) env) :: starEach es env := rfl
theorem zan {pos : Pos} : (backTo pos (starEach [] env)).any (·.1) = false := rfl
theorem zaj {pos : Pos} {e : Expr} (h : starEach (e :: es) env = (false, eval e env) :: starEach es env) (t : (backTo pos (starEach es env)).any (·.1) = false) : (backTo pos (starEach (e :: es) env)).any (·.1) = false := by
  rw [h]; simpa [backTo] using t
theorem znw {a b} : ∀ whole, isTrue (.Name a b) env whole = (do let v ← whole; standAt (Expr.Name a b).pos; holding [v] (truthy v)) := fun _ => rfl
theorem zck {a b c d} : ∀ whole, isTrue (.Call a b c d) env whole = (do let v ← whole; standAt (Expr.Call a b c d).pos; holding [v] (truthy v)) := fun _ => rfl
end
section
variable {X : Cx} {fn : Nat → List D → Option SV} {a b c e : Expr} {ca cb cc ce : E} {es : List Expr} {cs : Es} {pos p : Pos} {x : Str}
theorem IE.v (h : IE X fn e ce) : PE X e (tV X.K fn ce) := h.h.imp fun σ H Q ⟨W, ρ, r, hR, he, q⟩ => ⟨W, ρ, r, hR, he, fun v H' s x => q v H' s (x.frz hR.wf)⟩
theorem zav {i : Int} {j : Nat} : IE X fn (.Constant (.int i) j pos) (.int i) := .mk <| zoJ.imp fun σ H Q zz3 => by
  obtain ⟨W, ρ, r, hR, he, q⟩ := zz3
  simp only [zmB] at he; cases he; exact q _ H (.refl H) (.val (.int i))
theorem znx {i : Bool} {j : Nat} : IE X fn (.Constant (.bool i) j pos) (.bl i) := .mk <| zsu.imp fun σ H Q zz3 => by
  obtain ⟨W, ρ, r, hR, he, q⟩ := zz3
  simp only [zs9] at he; cases he; exact q _ H (.refl H) (.val (.bl i))
theorem zcQ {j : Nat} : IE X fn (.Constant .none j pos) .non := .mk <| zoK.imp fun σ H Q zz3 => by
  obtain ⟨W, ρ, r, hR, he, q⟩ := zz3
  simp only [zpi] at he; cases he; exact q _ H (.refl H) (.val .non)
theorem zpx {i : Str} {j : Nat} : IE X fn (.Constant (.str i) j pos) (.str i) := .mk <| zf5.imp fun σ H Q zz3 => by
  obtain ⟨W, ρ, r, hR, he, q⟩ := zz3
  simp only [zpj] at he; cases he; exact q _ H (.refl H) (.val (.str i))
theorem zag (i : Nat) (hN : X.N[i]? = some x) (hv : Vis X.env.scope x) (hd : (x == ("__debug__" : Str)) = false := by decide) (hcd : (x == ("__classdict__" : Str)) = false := by decide) : IE X fn (.Name x pos) (.var i) :=
  .mk <| (zhJ hN hv hd hcd).imp fun σ H Q zz3 => by
    obtain ⟨W, ρ, r, hR, he, q⟩ := zz3
    simp only [zpk] at he
    obtain ⟨v, h1, _, h3⟩ := hR.look he
    exact ⟨v, h1, q v H (.refl H) h3⟩
theorem zcR {i : Int} {t : Tok} (hg : Gl X x) (hm : X.mg x = some (.int i t)) (hd : (x == ("__debug__" : Str)) = false := by decide) : IE X fn (.Name x pos) (.int i) :=
  .mk <| (zmY hg hm (v := .int i) ⟨t, rfl⟩ hd).imp fun σ H Q zz3 => by
    obtain ⟨W, ρ, r, hR, he, q⟩ := zz3
    simp only [zmB] at he; cases he; exact q _ H (.refl H) (.val (.int i))
theorem zap : IA X fn [] .nil := .mk <| zf8.imp fun σ H Q zz3 => by
  obtain ⟨W, ρ, rs, hR, he, q⟩ := zz3
  simp only [zb2] at he; cases he; exact q _ H (.refl H) .nil
theorem zad (ha : IE X fn e ce) (hr : IA X fn es cs) (hs : starEach (e :: es) X.env = (false, eval e X.env) :: starEach es X.env := by rfl) : IA X fn (e :: es) (.cons ce cs) :=
  .mk <| (zcg ha.v hr.h hs).imp fun σ H Q zz3 => by
    obtain ⟨W, ρ, rs, hR, he, q⟩ := zz3
    simp only [zbB, jo1, jo2] at he
    obtain ⟨r, e1, rs', e2, rfl⟩ := he
    exact ⟨W, ρ, r, hR, e1, fun v H1 s1 f1 => ⟨W, ρ, rs', hR.same s1, e2, fun vs H2 s2 f2 => q _ H2 (s1.trans s2) (.cons (f1.same s2) f2)⟩⟩
theorem zfh {K : PySem.W.Frag} {p : Prim} {W : Addr → Prop} {ρ : LW.Env} {σ : St} {H H1 : Hp} {Q : VK} {rs : List SV} {vs : List V} {r : SV} (hR : R K W ρ σ H) (s1 : Same H H1) (f : Paired (Frz K W H1) rs vs)
    (e : zao p (rs.map zby) = some r) (q : ∀ v H', Same H H' → Res K W H H' r v → Q v H') : VR K (zao p) vs H1 Q :=
  ⟨W, rs.map zby, r, hR.wf' s1, zhU f, e, fun v H' s2 h => q v H' (s1.trans s2) (h.back s1)⟩
theorem zhV {K : PySem.W.Frag} {p : Prim} {ρ : LW.Env} {σ : St} {H : Hp} {Q : VK} {W : Addr → Prop} {r : SV} (hR : R K W ρ σ H) (he : evE fn (.prim p (.cons ca (.cons cb .nil))) ρ = some r) (q : ∀ v H', Same H H' → Res K W H H' r v → Q v H') :
    tOp (VR2 K (zao p)) (tV K fn ca) (tV K fn cb) σ H Q := by
  simp only [zci, zb2, zbB, jo1, jo2] at he
  obtain ⟨rs, ⟨r1, e1, rs', ⟨r2, e2, rs'', e3, rfl⟩, rfl⟩, e4⟩ := he
  cases e3
  exact ⟨W, ρ, r1, hR, e1, fun v1 H1 s1 f1 => ⟨W, ρ, r2, hR.same s1, e2, fun v2 H2 s2 f2 => zfh hR (s1.trans s2) (.cons (f1.same s2) (.cons f2 .nil)) e4 q⟩⟩
theorem zbN {op : Operator} {pr : Prim} (ho : OpR X (binaryOp op) (VR2 X.K (zao pr))) (ha : IE X fn a ca) (hb : IE X fn b cb) : IE X fn (.BinOp a op b pos) (.prim pr (.cons ca (.cons cb .nil))) :=
  .mk <| (zsC ho ha.v hb.v).imp fun σ H Q ⟨W, ρ, r, hR, he, q⟩ => zhV hR he q
theorem zuJ {op : UnaryOp} {pr : Prim} (ho : UnR X (unaryOp op) (VR1 X.K (zao pr))) (ha : IE X fn a ca) : IE X fn (.UnaryOp op a pos) (.prim pr (.cons ca .nil)) :=
  .mk <| (zsD ho ha.v).imp fun σ H Q zz3 => by
    obtain ⟨W, ρ, r, hR, he, q⟩ := zz3
    simp only [zci, zb2, zbB, jo1, jo2] at he
    obtain ⟨rs, ⟨r1, e1, rs', e3, rfl⟩, e4⟩ := he
    cases e3
    exact ⟨W, ρ, r1, hR, e1, fun v1 H1 s1 f1 => zfh hR s1 (.cons f1 .nil) e4 q⟩
theorem zlg {op : CmpOp} {pr : Prim} (ho : OpR X (compareOp op) (VR2 X.K (zao pr))) (ha : IE X fn a ca) (hb : IE X fn b cb) (hm : behindInMarks op b = false) : IE X fn (.Compare a [op] [b] pos) (.prim pr (.cons ca (.cons cb .nil))) :=
  .mk <| (zm2 ho ha.v hb.v hm).imp fun σ H Q ⟨W, ρ, r, hR, he, q⟩ => zhV hR he q
theorem zjj (hu : X.A.units + 64 < cLine) (ha : IE X fn a ca) (hb : IE X fn b cb) (hs : zjC b) : IE X fn (.Subscript a b pos) (.prim .idx (.cons ca (.cons cb .nil))) :=
  .mk <| (zsP (zpw hu) ha.v hb.v hs).imp fun σ H Q ⟨W, ρ, r, hR, he, q⟩ => zhV hR he q
theorem zj0 {K : PySem.W.Frag} {pr : Prim} {ρ : LW.Env} {σ : St} {H : Hp} {Q : VK} {W : Addr → Prop} {r : SV} (hR : R K W ρ σ H) (he : evE fn (.prim pr cs) ρ = some r) (q : ∀ v H', Same H H' → Res K W H H' r v → Q v H') :
    tCB (VR K (zao pr)) (tVs K fn cs) σ H Q := by
  simp only [zci, jo1] at he
  obtain ⟨rs, e1, e2⟩ := he
  exact ⟨W, ρ, rs, hR, e1, fun vs H1 s1 f => zfh hR s1 f e2 q⟩
theorem zdm {id : String} {pr : Prim} (hc : CallR X (.builtin id) (VR X.K (zao pr))) (hg : Gl X x) (hm : X.mg x = none) (hv : bootBuiltins x = some (.builtin id)) (ha : IA X fn (e :: es) cs) (hn : x ≠ "__name__" := by decide) (hdb : (x == ("__debug__" : Str)) = false := by decide)
    (he : starEach (e :: es) X.env = (false, eval e X.env) :: starEach es X.env := by rfl) (hpl : (backTo pos (starEach es X.env)).any (·.1) = false := by rfl) : IE X fn (.Call (.Name x p) (e :: es) [] pos) (.prim pr cs) :=
  .mk <| (zfa hc hg hm hv ha.h hn hdb he hpl).imp fun σ H Q ⟨W, ρ, r, hR, h, q⟩ => zj0 hR h q
theorem zfi {T : String} {pr : Prim} (hc : CallR X (.type T) (VR X.K (zao pr))) (hg : Gl X x) (hm : X.mg x = none) (hv : bootBuiltins x = some (.type T)) (ha : IA X fn (e :: es) cs) (hn : x ≠ "__name__" := by decide) (hdb : (x == ("__debug__" : Str)) = false := by decide)
    (he : starEach (e :: es) X.env = (false, eval e X.env) :: starEach es X.env := by rfl) (hpl : (backTo pos (starEach es X.env)).any (·.1) = false := by rfl) : IE X fn (.Call (.Name x p) (e :: es) [] pos) (.prim pr cs) :=
  .mk <| (zjA hc hg hm hv ha.h hn hdb he hpl).imp fun σ H Q ⟨W, ρ, r, hR, h, q⟩ => zj0 hR h q
theorem zfj {K : PySem.W.Frag} {W : Addr → Prop} {H : Hp} : ∀ {rs : List SV} {ds : List D}, zg9 rs = some ds → ds.length = rs.length
  | [], _, e => by simp [zg9] at e; subst e; rfl
  | r :: rs, _, e => by
    simp only [zg9, jo1, jo2] at e
    obtain ⟨d, e1, ds, e2, rfl⟩ := e
    simp [zfj (K := K) (W := W) (H := H) e2]
noncomputable def zj1 : Es → Nat
  | .nil => 0
  | .cons _ r => zj1 r + 1
theorem zfk : ∀ {cs : Es} {ρ : LW.Env} {rs : List SV}, zbV fn cs ρ = some rs → rs.length = zj1 cs
  | .nil, _, _, e => by simp only [zb2] at e; cases e; rfl
  | .cons c cs, _, _, e => by
    simp only [zbB, jo1, jo2] at e
    obtain ⟨r, e1, rs', e2, rfl⟩ := e
    simp [zj1, zfk e2]
theorem zbs {k : Nat} (h : IA X fn es cs) (hl : zj1 cs ≤ 1000 := by decide) : IE X fn (.Tuple es k pos) (.tup cs) :=
  .mk <| (zoZ h.h).imp fun σ H Q zz3 => by
    obtain ⟨W, ρ, r, hR, he, q⟩ := zz3
    simp only [zpl, jo1, jo2] at he
    obtain ⟨rs, e1, ds, e2, rfl⟩ := he
    refine ⟨W, ρ, rs, hR, e1, fun vs H1 s1 f => ?_⟩
    have r1 := zfg f e2
    have l1 := r1.length
    have l2 := zfj (K := X.K) (W := W) (H := H) e2
    have l3 := zfk e1
    exact ⟨Nat.le_of_lt (zgh (by omega)), fun p hp => q _ _ (s1.trans (za6 hp _)) ((zff hp r1).back s1)⟩
theorem zdT (h : IA X fn es cs) (hl : zj1 cs ≤ 1000 := by decide) : IE X fn (.List es pos) (.lst cs) :=
  .mk <| (zmy h.h).imp fun σ H Q zz3 => by
    obtain ⟨W, ρ, r, hR, he, q⟩ := zz3
    simp only [zpm, jo1, jo2] at he
    obtain ⟨rs, e1, ds, e2, rfl⟩ := he
    refine ⟨W, ρ, rs, hR, e1, fun vs H1 s1 f => ?_⟩
    have r1 := zfg f e2
    have l1 := r1.length
    have l2 := zfj (K := X.K) (W := W) (H := H) e2
    have l3 := zfk e1
    exact ⟨Nat.le_of_lt (zgh (by omega)), fun p hp => q _ _ (s1.trans (za6 hp _)) ((zec hp r1).back s1)⟩
theorem zlh {op : BoolOp} (h : IE X fn a ca) : IE X fn (.BoolOp op [a] pos) ca := .mk (zoN h.h)
theorem zit {zdD : List Expr} (ha : IE X fn a ca) (hb : IE X fn (.BoolOp .And (b :: zdD) pos) cb) : IE X fn (.BoolOp .And (a :: b :: zdD) pos) (.and ca cb) :=
  .mk <| (zoO ha.h hb.h).imp fun σ H Q zz3 => by
    obtain ⟨W, ρ, r, hR, he, q⟩ := zz3
    simp only [zpn, jo1] at he
    obtain ⟨r1, e1, e2⟩ := he
    refine ⟨W, ρ, r1, hR, e1, fun v H1 s1 f => ?_⟩
    split at e2
    · cases f with
      | val h =>
        cases h
        exact ⟨true, rfl, by rw [if_pos rfl]; exact ⟨W, ρ, r, hR.same s1, e2, fun v H2 s2 h => q v H2 (s1.trans s2) (h.back s1)⟩⟩
    · cases f with
      | val h =>
        cases h; cases e2
        exact ⟨false, rfl, by rw [if_neg Bool.false_ne_true]; exact q _ H1 s1 (.val (.bl false))⟩
    · cases e2
theorem zny {op op' : CmpOp} {p q : Prim} (ho : OpR X (compareOp op) (VR2 X.K (zao p))) (ho' : OpR X (compareOp op') (VR2 X.K (zao q))) (ha : IE X fn a ca) (hb : IE X fn b cb) (hc : IE X fn c cc)
    (hm : lastMarks [op, op'] [b, c] = false := by with_unfolding_all rfl) : IE X fn (.Compare a [op, op'] [b, c] pos) (.chain p q ca cb cc) :=
  .mk <| (zkW ho ho' ha.v hb.v hc.v hm).imp fun σ H Q zz3 => by
    obtain ⟨W, ρ, r, hR, he, hq⟩ := zz3
    simp only [zlb, jo1] at he
    obtain ⟨r1, e1, r2, e2, z, e3, e4⟩ := he
    refine ⟨W, ρ, r1, hR, e1, fun v1 H1 s1 f1 => ⟨W, ρ, r2, hR.same s1, e2, fun v2 H2 s2 f2 => ?_⟩⟩
    refine ⟨W, _, z, hR.wf' (s1.trans s2), .cons (f1.same s2).sees (.cons f2.sees .nil), e3, fun v H3 s3 h3 => ?_⟩
    split at e4
    · cases h3 with
      | val h3 =>
        cases h3
        simp only [jo1] at e4
        obtain ⟨r3, e5, e6⟩ := e4
        refine ⟨true, rfl, ?_⟩
        rw [if_pos rfl]
        have s13 := (s1.trans s2).trans s3
        refine ⟨W, ρ, r3, hR.same s13, e5, fun v4 H4 s4 f4 => ?_⟩
        exact ⟨W, _, r, hR.wf' (s13.trans s4), .cons ((f2.same s3).same s4).sees (.cons f4.sees .nil), e6, fun v5 H5 s5 h5 => hq v5 H5 (s13.trans (s4.trans s5)) (h5.back (s13.trans s4))⟩
    · cases h3 with
      | val h3 =>
        cases h3; cases e4
        exact ⟨false, rfl, by rw [if_neg Bool.false_ne_true]; exact hq _ H3 ((s1.trans s2).trans s3) (.val (.bl false))⟩
    · cases e4
theorem IW.t (h : IW X fn e ce) : IT X fn e ce := .mk (PW.pt h.h)
theorem zli (h : IT X fn a ca) : IW X fn (.BoolOp .Or [a] pos) ca := .mk (zoL h.h)
theorem zrb {zdD : List Expr} (ha : IT X fn a ca) (hb : IW X fn (.BoolOp .Or (b :: zdD) pos) cb) : IW X fn (.BoolOp .Or (a :: b :: zdD) pos) (.or ca cb) :=
  .mk <| (zsv ha.h hb.h).imp fun σ H Q zz3 => by
    obtain ⟨W, ρ, k, hR, he, q⟩ := zz3
    simp only [zta, jo1] at he
    obtain ⟨k1, e1, e2⟩ := he
    refine ⟨W, ρ, k1, hR, e1, fun H1 s1 => ?_⟩
    cases k1 with
    | true => rw [if_pos rfl] at e2 ⊢; cases e2; exact q H1 s1
    | false => rw [if_neg Bool.false_ne_true] at e2 ⊢; exact ⟨W, ρ, k, hR.same s1, e2, fun H2 s2 => q H2 (s1.trans s2)⟩
theorem zfl (ha : IT X fn a ca) : IT X fn (.UnaryOp .Not a pos) (.not ca) :=
  .mk <| (zoM ha.h).imp fun σ H Q zz3 => by
    obtain ⟨W, ρ, k, hR, he, q⟩ := zz3
    simp only [zpo, jo2] at he
    obtain ⟨k1, e1, rfl⟩ := he
    exact ⟨W, ρ, k1, hR, e1, fun H1 s1 => q H1 s1⟩
noncomputable def zfm : Prim → Bool
  | .eq => true | .ne => true | .lt => true | .le => true | .gt => true | .ge => true | .inn => true | .nin => true | .isN => true | .notN => true | .eqS => true | .neS => true
  | _ => false
theorem zhn {b : Bool} {r : SV} (h : zd7 b = some r) : r = .val (.bl b) := by cases h; rfl
theorem zeR {p : Prim} (hp : zfm p = true) {ds : List D} {r : SV} (h : zao p ds = some r) : ∃ b, r = .val (.bl b) := by
  cases p <;> first | cases hp | skip
  all_goals
    simp only [zao] at h
    first | unfold zuH at h | unfold zuI at h | unfold pEq at h | unfold pNe at h | unfold pLt at h | unfold pLe at h | unfold pGt at h | unfold pGe at h | unfold pIn at h | unfold zom at h | unfold zuG at h | unfold zo8 at h
    split at h
    all_goals first
      | exact ⟨_, zhn h⟩
      | cases h
      | (split at h <;> first | exact ⟨_, zhn h⟩ | cases h)
      | (simp only [jo1] at h; obtain ⟨_, _, _, _, h⟩ := h; exact ⟨_, zhn h⟩)
theorem zb3 {op : CmpOp} {pr : Prim} (hp : zfm pr = true) (ho : OpR X (compareOp op) (VR2 X.K (zao pr))) (ha : IE X fn a ca) (hb : IE X fn b cb) (hm : behindInMarks op b = false) : IT X fn (.Compare a [op] [b] pos) (.prim pr (.cons ca (.cons cb .nil))) :=
  .mk <| (zm3 ho ha.v hb.v hm).imp fun σ H Q zz3 => by
    obtain ⟨W, ρ, k, hR, he, q⟩ := zz3
    have he' : (evE fn (.prim pr (.cons ca (.cons cb .nil))) ρ).bind zbp = some k := by
      rw [zjR] at he
      rw [zci]
      simp only [jo1] at he ⊢
      obtain ⟨rs, e1, r, e2, e3⟩ := he
      exact ⟨r, ⟨rs, e1, e2⟩, e3⟩
    rw [jo1] at he'
    obtain ⟨r, e1, e2⟩ := he'
    have e1' := e1
    rw [zci] at e1'
    simp only [jo1] at e1'
    obtain ⟨rs, _, e3⟩ := e1'
    obtain ⟨b, rfl⟩ := zeR hp e3
    simp only [zbp] at e2
    cases e2
    exact zhV hR e1 fun v H' s h => by
      cases h with
      | val h => cases h; exact ⟨_, rfl, q H' s⟩
theorem znz {op op' : CmpOp} {p q : Prim} (hp : zfm p = true) (hq' : zfm q = true) (ho : OpR X (compareOp op) (VR2 X.K (zao p))) (ho' : OpR X (compareOp op') (VR2 X.K (zao q))) (ha : IE X fn a ca) (hb : IE X fn b cb) (hc : IE X fn c cc)
    (hm : lastMarks [op, op'] [b, c] = false := by with_unfolding_all rfl) : IT X fn (.Compare a [op, op'] [b, c] pos) (.chain p q ca cb cc) :=
  .mk <| (zkX ho ho' ha.v hb.v hc.v hm).imp fun σ H Q zz3 => by
    obtain ⟨W, ρ, k, hR, he, hq⟩ := zz3
    simp only [zlc, jo1] at he
    obtain ⟨r1, e1, r2, e2, z, e3, e4⟩ := he
    refine ⟨W, ρ, r1, hR, e1, fun v1 H1 s1 f1 => ⟨W, ρ, r2, hR.same s1, e2, fun v2 H2 s2 f2 => ?_⟩⟩
    refine ⟨W, _, z, hR.wf' (s1.trans s2), .cons (f1.same s2).sees (.cons f2.sees .nil), e3, fun v H3 s3 h3 => ?_⟩
    split at e4
    · cases h3 with
      | val h3 =>
        cases h3
        simp only [jo1] at e4
        obtain ⟨r3, e5, r4, e6, e7⟩ := e4
        refine ⟨true, rfl, ?_⟩
        rw [if_pos rfl]
        have s13 := (s1.trans s2).trans s3
        refine ⟨W, ρ, r3, hR.same s13, e5, fun v4 H4 s4 f4 => ?_⟩
        refine ⟨W, _, r4, hR.wf' (s13.trans s4), .cons ((f2.same s3).same s4).sees (.cons f4.sees .nil), e6, fun v5 H5 s5 h5 => ?_⟩
        obtain ⟨b5, rfl⟩ := zeR hq' e6
        simp only [zbp] at e7
        cases e7
        cases h5 with
        | val h5 => cases h5; exact ⟨_, rfl, hq H5 (s13.trans (s4.trans s5))⟩
    · cases h3 with
      | val h3 =>
        cases h3; cases e4
        exact ⟨false, rfl, by rw [if_neg Bool.false_ne_true]; exact ⟨false, rfl, hq H3 ((s1.trans s2).trans s3)⟩⟩
    · cases e4
theorem znA {K : PySem.W.Frag} {W : Addr → Prop} {H : Hp} {r : SV} {v : V} {k : Bool} (f : Frz K W H r v) (h : zbp r = some k) : zsJ K v H k := by
  unfold zbp at h
  split at h
  · cases h; cases f with | val f => cases f; rfl
  · cases h; cases f with | val f => cases f; rfl
  · cases h; cases f with | val f => cases f; rfl
  · rename_i l
    cases h
    obtain ⟨a, xs, rfl, hq, rp⟩ := Frz.sees f |>.tup
    refine .inr (.inl ⟨xs, hq, ?_⟩)
    cases rp <;> rfl
  · cases h
    obtain ⟨a, xs, rfl, hq, rp⟩ := Frz.sees f |>.lst
    refine .inl ⟨xs, hq, ?_⟩
    cases rp <;> rfl
  · cases h
    obtain ⟨a, xs, rfl, hq, rp⟩ := Frz.sees f |>.lst
    refine .inl ⟨xs, hq, ?_⟩
    cases rp <;> rfl
  · cases h
theorem zfn (hE : IE X fn e ce) (hev : ∀ ρ, evT fn ce ρ = (evE fn ce ρ).bind zbp) (he : ∀ whole, isTrue e X.env whole = (do let v ← whole; standAt e.pos; holding [v] (truthy v)) := by intro _; rfl) : IT X fn e ce :=
  .mk <| (zkY hE.v he).imp fun σ H Q zz3 => by
    obtain ⟨W, ρ, k, hR, ht, q⟩ := zz3
    rw [hev, jo1] at ht
    obtain ⟨r, e1, e2⟩ := ht
    exact ⟨W, ρ, r, hR, e1, fun v H1 s1 f => ⟨k, znA f e2, q H1 s1⟩⟩
theorem zpy (i : Nat) : ∀ ρ, evT fn (.var i) ρ = (evE fn (.var i) ρ).bind zbp := fun ρ => id rfl
theorem zho (p : Prim) (cs : Es) : ∀ ρ, evT fn (.prim p cs) ρ = (evE fn (.prim p cs) ρ).bind zbp := fun ρ => by rw [zjR, zci, Option.bind_assoc]
theorem zee (f : Nat) (cs : Es) : ∀ ρ, evT fn (.call f cs) ρ = (evE fn (.call f cs) ρ).bind zbp := fun ρ => by rw [znl, zjQ, Option.bind_assoc]
end
end L2.LW
set_option maxHeartbeats 4000000
namespace L2.LW
open PySem PySem.Spec PyProof.Rows
noncomputable def spI (K : PySem.W.Frag) (fn : Nat → List D → Option SV) (i : Nat) : Sp := fun vs H Q _ => ∃ W ds r, Wf W H ∧ Reps K W H ds vs ∧ fn i ds = some r ∧ ∀ v H', Same H H' → Res K W H H' r v → Q v H'
structure ARep (K : PySem.W.Frag) (W : Addr → Prop) (H : Hp) (io : List Nat) (ds : List D) (vs : List V) : Prop where
  len : ds.length = vs.length
  val : ∀ (k : Nat) (d : D), ds[k]? = some d → k ∉ io → ∃ v, vs[k]? = some v ∧ Rep K W H d v
  obj : ∀ (k : Nat) (d : D), ds[k]? = some d → k ∈ io → ∃ a o, vs[k]? = some (.ref a) ∧ W a ∧ H a = some o ∧ ORep K W H d o
  inj : ∀ (j k : Nat) (a : Addr), j ∈ io → k ∈ io → vs[j]? = some (.ref a) → vs[k]? = some (.ref a) → j = k
noncomputable def ioV (io : List Nat) (vs : List V) (a : Addr) : Prop := ∃ k ∈ io, vs[k]? = some (.ref a)
noncomputable def zuK (K : PySem.W.Frag) (W : Addr → Prop) (H : Hp) (io : List Nat) (vs : List V) (outs : List D) : Prop :=
  Paired (fun k d => ∃ a o, vs[k]? = some (.ref a) ∧ H a = some o ∧ ORep K W H d o) io outs
noncomputable def spA (K : PySem.W.Frag) (fa : Nat → List D → Option Ans) (i : Nat) (io : List Nat) : Sp := fun vs H Q _ => ∃ W ds r outs, Wf W H ∧ ARep K W H io ds vs ∧ fa i ds = some (.ok r outs) ∧
  ∀ v H', (∀ a o, H a = some o → ¬ ioV io vs a → H' a = some o) → zuK K W H' io vs outs → Res K W H H' r v → Q v H'
theorem Reps.get' {K : PySem.W.Frag} {W : Addr → Prop} {H : Hp} {ds : List D} {vs : List V} (r : Reps K W H ds vs) : ARep K W H [] ds vs :=
  ⟨r.length, fun k d h _ => r.get h, fun k d _ h => (by cases h), fun j k a h => (by cases h)⟩
theorem zhW {fa : Nat → List D → Option Ans} {i : Nat} {ds : List D} {r : SV} (h : prj fa i ds = some r) : fa i ds = some (.ok r []) := by
  unfold prj at h
  split at h
  · rename_i r' e; cases h; exact e
  · cases h
theorem zaM {Pg : Program} {w : World} {K : PySem.W.Frag} {mg : Str → Option Value} {base : Heap} {k : Nat} {f : Addr} {fd : FuncData} {ps : List Str} {fa : Nat → List D → Option Ans} {i : Nat} {io : List Nat}
    (F : FnOk Pg w K mg base CX0 k f fd ps (spA K fa i io)) (h : io = []) : FnOk Pg w K mg base CX0 k f fd ps (spI K (prj fa) i) := by
  subst h
  exact F.imp fun vs H Q E ⟨W, ds, r, wf, rp, e, q⟩ => ⟨W, ds, r, [], wf, rp.get', zhW e, fun v H' k _ res => q v H' (fun a o h => k a o h fun ⟨_, z, _⟩ => by cases z) res⟩
theorem zfo {K : PySem.W.Frag} {W : Addr → Prop} {H : Hp} : ∀ {rs : List SV} {vs : List V}, Paired (Frz K W H) rs vs → rs.any SV.lent = false → Reps K W H (rs.map zby) vs
  | _, _, .nil, _ => .nil
  | _, _, .cons h t, e => by
    simp only [List.any_cons, Bool.or_eq_false_iff] at e
    refine .cons ?_ (zfo t e.2)
    cases h with
    | val h => exact h
    | lis h e' r => exact r.rep h e'
    | see h e' r => simp [SV.lent] at e
theorem zj2 {K : PySem.W.Frag} {W : Addr → Prop} {H : Hp} : ∀ {rs : List SV} {vs : List V}, Paired (Frz K W H) rs vs → Reps K (fun _ => False) H (rs.map zby) vs
  | _, _, .nil => .nil
  | _, _, .cons h t => by
    refine .cons ?_ (zj2 t)
    cases h with
    | val h => exact h.less fun _ z => z.elim
    | lis h e' r => exact (r.less fun _ z => z.elim).rep (fun z => z) e'
    | see h e' r => exact (r.less fun _ z => z.elim).rep (fun z => z) e'
theorem Res.plain {K : PySem.W.Frag} {W W' : Addr → Prop} {H H' : Hp} {r : SV} {v : V} (h : Res K W' H H' r v) (wf : ∀ a, W' a → W a) (p : r.plain = true) : Res K W H H' r v := by
  cases h with
  | val h => exact .val (h.plain p)
  | new h e r => exact .new h e (r.plain p)
  | see h e r => exact .see (wf _ h) e (r.plain p)
section
variable {X : Cx} {fn : Nat → List D → Option SV} {fuel : Nat} {a b c e : Expr} {ca cb cc ce : E} {es : List Expr} {cs : Es} {pos p : Pos} {x : Str}
theorem zaT {k : Nat} {f : Addr} {fd : FuncData} {ps : List Str} {i : Nat} (F : FnOk X.prog X.w X.K X.mg X.base CX0 k f fd ps (spI X.K fn i)) (hr : Room k X.A) (hg : Gl X x) (hm : X.mg x = some (.ref f)) (hk : PySem.W.keepIn X.K (.ref f) = true)
    (hb : Binds X.K fd ps []) (ha : IA X fn (e :: es) cs) (hdb : (x == ("__debug__" : Str)) = false := by decide) (he : starEach (e :: es) X.env = (false, eval e X.env) :: starEach es X.env := by rfl)
    (hpl : (backTo pos (starEach es X.env)).any (·.1) = false := by rfl) : IE X fn (.Call (.Name x p) (e :: es) [] pos) (.call i cs) :=
  .mk <| (zjy F hr hg hm hk hb .nil zsR ha.h hdb he hpl).imp fun σ H Q zz3 => by
    obtain ⟨W, ρ, r, hR, h, q⟩ := zz3
    simp only [zjQ, jo1, zdk] at h
    obtain ⟨rs, e1, r', e2, e3⟩ := h
    split at e3
    · cases e3
    · rename_i hc
      cases e3
      refine ⟨W, ρ, rs, hR, e1, fun vs H1 s1 f => ?_⟩
      show spI X.K fn i (vs ++ []) H1 Q E0
      rw [List.append_nil]
      cases hl : rs.any SV.lent with
      | false => exact ⟨W, _, r, hR.wf' s1, zfo f hl, e2, fun v H' s2 h => q v H' (s1.trans s2) (h.back s1)⟩
      | true =>
        have hp : r.plain = true := by
          cases hp : r.plain with
          | true => rfl
          | false => exact absurd (by rw [hl, hp]; rfl) hc
        exact ⟨fun _ => False, _, r, fun _ z => z.elim, zj2 f, e2, fun v H' s2 h => q v H' (s1.trans s2) ((h.plain (fun _ z => z.elim) hp).back s1)⟩
section
variable {K : PySem.W.Frag} {W : Addr → Prop} {ρ : LW.Env} {σ : St} {H H' : Hp} {i j : Nat} {d : D} {v : V}
theorem za1 {α : Type} {l : List α} {i j : Nat} {x y : α} (h : (l.set i x)[j]? = some y) : (i = j ∧ y = x ∧ j < l.length) ∨ (i ≠ j ∧ l[j]? = some y) := by
  rw [List.getElem?_set] at h
  split at h
  · rename_i e
    subst e
    split at h
    · cases h; exact .inl ⟨rfl, rfl, by assumption⟩
    · cases h
  · exact .inr ⟨by assumption, h⟩
theorem zcS {α : Type} {l : List α} {i : Nat} {x : α} (h : i < l.length) : (l.set i x)[i]? = some x := by simp [h]
theorem zaK {α : Type} {l : List α} {i j : Nat} {x : α} (h : i ≠ j) : (l.set i x)[j]? = l[j]? := List.getElem?_set_ne h
theorem R.set_val (r : R K W ρ σ H) (h : Rep K W H d v) : R K W (ρ.set i (some (.val d))) (σ.set i (some v)) H := by
  refine ⟨fun j e hj => ?_, fun j e hj => ?_, fun j x e hj hc => ?_, fun j k x y e1 e2 a h1 h2 c1 c2 h3 h4 => ?_, r.wf, by simpa using r.len⟩
  · rcases za1 hj with ⟨rfl, z, hl⟩ | ⟨n, z⟩
    · cases z
      exact ⟨v, zcS (by rw [← r.len]; exact hl), h⟩
    · obtain ⟨u, h1, h2⟩ := r.val j e z
      exact ⟨u, by rw [zaK n]; exact h1, h2⟩
  · rcases za1 hj with ⟨rfl, z, hl⟩ | ⟨n, z⟩
    · cases z
    · exact r.nol j e z
  · rcases za1 hj with ⟨rfl, z, hl⟩ | ⟨n, z⟩
    · cases z; cases hc
    · obtain ⟨a, o, h1, h2⟩ := r.own j x e z hc
      exact ⟨a, o, by rw [zaK n]; exact h1, h2⟩
  · rcases za1 h1 with ⟨rfl, z, hl⟩ | ⟨n, z⟩
    · cases z; cases c1
    · rcases za1 h2 with ⟨rfl, z', hl⟩ | ⟨n', z'⟩
      · cases z'; cases c2
      · rw [zaK n] at h3
        rw [zaK n'] at h4
        exact r.inj j k x y e1 e2 a z z' c1 c2 h3 h4
theorem zhp {a : Addr} (h : Own (ρ.set i (some (.val d))) (σ.set i (some v)) a) : Own ρ σ a := by
  obtain ⟨j, x, e, h1, hc, h2⟩ := h
  rcases za1 h1 with ⟨rfl, z, hl⟩ | ⟨n, z⟩
  · cases z; cases hc
  · rw [zaK n] at h2
    exact ⟨j, x, e, z, hc, h2⟩
theorem zhX {x : SV} (hx : ∀ d, x ≠ .io d) (hf : ¬ zhc ρ i) (j : Nat) : (zhc (ρ.set i (some x)) j ↔ zhc ρ j) ∧ (zhc ρ j → i ≠ j) := by
  refine ⟨⟨fun ⟨d, h⟩ => ?_, fun ⟨d, h⟩ => ?_⟩, fun h e => hf (by rw [e]; exact h)⟩
  · rcases za1 h with ⟨rfl, z, hl⟩ | ⟨n, z⟩
    · cases z; exact absurd rfl (hx d)
    · exact ⟨d, z⟩
  · exact ⟨d, by rw [zaK (fun e => hf (by rw [e]; exact ⟨d, h⟩))]; exact h⟩
theorem zcl (r : R K W ρ σ H) (s : Same H H') (h : Rep K W H' d v) (hf : ¬ zhc ρ i) : SPost K W ρ σ H W (ρ.set i (some (.val d))) (σ.set i (some v)) H' :=
  ⟨(r.same s).set_val h, fun a o q _ => s a o q, fun a w => .inl w, fun a w n => ⟨w, fun z => n (zhp z)⟩, fun j => ⟨(zhX (x := .val d) (fun _ z => (nomatch z)) hf j).1, fun z => zaK ((zhX (x := .val d) (fun _ z => (nomatch z)) hf j).2 z)⟩⟩
theorem zpz {a : Addr} (wf : Wf W H) (s : Same H H') {o : HO} (e : H' a = some o) : Wf (add W a) H' := fun b w => by
  rcases w with w | rfl
  · cases q : H b with
    | none => exact absurd q (wf b w)
    | some u => rw [s b u q]; exact fun z => nomatch z
  · rw [e]; exact fun z => nomatch z
theorem zdn {a : Addr} (s : Same H H') (h : H a = Option.none) : Ext W H (add W a) H' :=
  ⟨fun b o q _ => s b o q, fun b xs q => s b _ q, fun b o u q => s b _ q, fun b w => by
    rcases w with w | rfl
    · exact .inl w
    · exact .inr h⟩
theorem R.add {a : Addr} {o : HO} (r : R K W ρ σ H) (s : Same H H') (h : H a = Option.none) (e : H' a = some o) : R K (LW.add W a) ρ σ H' := by
  refine ⟨fun j d hj => ?_, r.nol, fun j x d hj hc => ?_, r.inj, zpz r.wf s e, r.len⟩
  · obtain ⟨u, h1, h2⟩ := r.val j d hj
    exact ⟨u, h1, h2.ext (zdn s h)⟩
  · obtain ⟨b, o, h1, h2, h3, h4⟩ := r.own j x d hj hc
    exact ⟨b, o, h1, .inl h2, s _ _ h3, h4.ext (zdn s h)⟩
theorem R.noOwn {a : Addr} (r : R K W ρ σ H) (h : H a = Option.none) : ¬ Own ρ σ a := fun z => by
  obtain ⟨_, o, d, e, _⟩ := r.ownW z
  rw [h] at e; cases e
theorem zdG {a : Addr} {o : HO} (r : R K W ρ σ H) (s : Same H H') (h : H a = Option.none) (e : H' a = some o) (rp : ORep K (LW.add W a) H' d o) (hf : ¬ zhc ρ i) :
    SPost K W ρ σ H (LW.add W a) (ρ.set i (some (.obj true d))) (σ.set i (some (.ref a))) H' := by
  have ra := r.add s h e
  refine ⟨⟨fun j d hj => ?_, fun j d hj => ?_, fun j x es hj hc => ?_, fun j k x y e1 e2 b h1 h2 c1 c2 h3 h4 => ?_, ra.wf, by simpa using r.len⟩, fun b o q _ => s b o q, (zdn (W := W) s h).win, fun b w n => ⟨.inl w, fun z => ?_⟩,
    fun j => ⟨(zhX (x := .obj true d) (fun _ z => (nomatch z)) hf j).1, fun z => zaK ((zhX (x := .obj true d) (fun _ z => (nomatch z)) hf j).2 z)⟩⟩
  · rcases za1 hj with ⟨rfl, z, hl⟩ | ⟨n, z⟩
    · cases z
    · obtain ⟨u, h1, h2⟩ := ra.val j d z
      exact ⟨u, by rw [zaK n]; exact h1, h2⟩
  · rcases za1 hj with ⟨rfl, z, hl⟩ | ⟨n, z⟩
    · cases z
    · exact r.nol j d z
  · rcases za1 hj with ⟨rfl, z, hl⟩ | ⟨n, z⟩
    · cases z; cases hc
      exact ⟨a, o, zcS (by rw [← r.len]; exact hl), .inr rfl, e, rp⟩
    · obtain ⟨b, ys, h1, h2⟩ := ra.own j x es z hc
      exact ⟨b, ys, by rw [zaK n]; exact h1, h2⟩
  · have other : ∀ {k : Nat} {x : SV} {e : D}, ρ[k]? = some (some x) → x.cell = some e → σ[k]? = some (some (.ref a)) → False := fun {k x e} q1 q3 q2 => r.noOwn h ⟨k, x, e, q1, q3, q2⟩
    rcases za1 h1 with ⟨rfl, z, hl⟩ | ⟨n, z⟩
    · rcases za1 h2 with ⟨rfl, _, _⟩ | ⟨n', z'⟩
      · rfl
      · rw [zcS (by rw [← r.len]; exact hl)] at h3
        cases h3
        rw [zaK n'] at h4
        exact (other z' c2 h4).elim
    · rcases za1 h2 with ⟨rfl, z', hl⟩ | ⟨n', z'⟩
      · rw [zcS (by rw [← r.len]; exact hl)] at h4
        cases h4
        rw [zaK n] at h3
        exact (other z c1 h3).elim
      · rw [zaK n] at h3
        rw [zaK n'] at h4
        exact r.inj j k x y e1 e2 b z z' c1 c2 h3 h4
  · obtain ⟨j, x, es, h1, hc, h2⟩ := z
    rcases za1 h1 with ⟨rfl, _, hl⟩ | ⟨n', z'⟩
    · rw [zcS (by rw [← r.len]; exact hl)] at h2
      cases h2
      exact r.wf _ w h
    · rw [zaK n'] at h2
      exact n ⟨j, x, es, z', hc, h2⟩
noncomputable def del (W : Addr → Prop) (a : Addr) : Addr → Prop := fun b => W b ∧ b ≠ a
theorem zlj (x : SV) (d : D) : (x.put d).cell = some d := by cases x <;> rfl
theorem znB (x : SV) (d d' : D) : x.put d ≠ .val d' := by cases x <;> exact fun z => nomatch z
theorem znC (x : SV) (d d' : D) : x.put d ≠ .obj false d' := by
  cases x <;> intro z <;> first | cases z | (simp [SV.put] at z)
theorem zmF {x : SV} {d : D} : (∃ d', x.put d = .io d') ↔ ∃ d', x = .io d' := by
  cases x with
  | io y => exact ⟨fun _ => ⟨_, rfl⟩, fun _ => ⟨_, rfl⟩⟩
  | _ => exact ⟨fun ⟨_, z⟩ => (nomatch z), fun ⟨_, z⟩ => (nomatch z)⟩
theorem zlk {a : Addr} {x : SV} {d0 d' : D} {o o' : HO} (r : R K W ρ σ H) (h : ρ[i]? = some (some x)) (hc : x.cell = some d0) (h' : σ[i]? = some (some (.ref a))) (s : Same H H') (e : H' a = some o) (hk : (∀ xs, o ≠ .tup xs) ∧ (∀ b u, o ≠ .frz b u))
    (rp : ORep K W H' d' o') : SPost K W ρ σ H W (ρ.set i (some (x.put d'))) σ (upd H' a o') := by
  have r' := r.same s
  have hO : Own ρ σ a := ⟨i, x, d0, h, hc, h'⟩
  have hW : W a := (r.ownW hO).1
  have ext : Ext W H' W (upd H' a o') := by
    refine ⟨fun b o q n => ?_, fun b ys q => ?_, fun b o u q => ?_, fun b w => .inl w⟩
    · rw [za4 (fun z => n (by rw [z]; exact hW))]; exact q
    · rw [za4 (fun z => by rw [z, e] at q; cases q; exact hk.1 _ rfl)]; exact q
    · rw [za4 (fun z => by rw [z, e] at q; cases q; exact hk.2 _ _ rfl)]; exact q
  have old : ∀ {k : Nat} {y : SV} {es : D}, (ρ.set i (some (x.put d')))[k]? = some (some y) → y.cell = some es → ∃ y' es', ρ[k]? = some (some y') ∧ y'.cell = some es' := fun {k y es} q c => by
    rcases za1 q with ⟨rfl, _, _⟩ | ⟨_, z⟩
    · exact ⟨_, _, h, hc⟩
    · exact ⟨_, _, z, c⟩
  refine ⟨⟨fun k d' hk => ?_, fun k d' hk => ?_, fun k y es hk hc' => ?_, fun k l x y e1 e2 b h1 h2 c1 c2 h3 h4 => ?_, fun b w => ?_, by simpa using r.len⟩, fun b o q n => ?_, fun b w => .inl w, fun b w n => ⟨w, fun z => ?_⟩, fun j => ⟨?_, fun _ => rfl⟩⟩
  · rcases za1 hk with ⟨rfl, z, hl⟩ | ⟨n, z⟩
    · exact absurd (Option.some.inj z).symm (znB _ _ _)
    · obtain ⟨u, h1, h2⟩ := r'.val k d' z
      exact ⟨u, h1, h2.ext ext⟩
  · rcases za1 hk with ⟨rfl, z, hl⟩ | ⟨n, z⟩
    · exact absurd (Option.some.inj z).symm (znC _ _ _)
    · exact r.nol k d' z
  · rcases za1 hk with ⟨rfl, z, hl⟩ | ⟨n, z⟩
    · cases z
      rw [zlj] at hc'
      cases hc'
      exact ⟨a, _, h', hW, zbx, rp.ext ext⟩
    · obtain ⟨b, ys, h1, h2, h3, h4⟩ := r'.own k y es z hc'
      refine ⟨b, ys, h1, h2, ?_, h4.ext ext⟩
      rw [za4 (fun z' => by subst z'; exact n (r.inj i k x y d0 es b h z hc hc' h' h1))]
      exact h3
  · obtain ⟨_, _, z1, w1⟩ := old h1 c1
    obtain ⟨_, _, z2, w2⟩ := old h2 c2
    exact r.inj k l _ _ _ _ b z1 z2 w1 w2 h3 h4
  · by_cases z : b = a
    · subst z; rw [zbx]; exact fun z => nomatch z
    · rw [za4 z]; exact r'.wf b w
  · rw [za4 (fun z => n (by rw [z]; exact hO))]
    exact s b o q
  · obtain ⟨k, y, es, h1, hc', h2⟩ := z
    obtain ⟨_, _, z, w⟩ := old h1 hc'
    exact n ⟨k, _, _, z, w, h2⟩
  · by_cases e : i = j
    · subst e
      have hl : i < ρ.length := by
        obtain ⟨z, _⟩ := List.getElem?_eq_some_iff.mp h; exact z
      constructor
      · rintro ⟨d', z⟩
        rw [zcS hl] at z
        have z := Option.some.inj (Option.some.inj z)
        obtain ⟨d2, w⟩ := zmF.mp ⟨d', z⟩
        exact ⟨d2, by rw [h, w]⟩
      · rintro ⟨d2, z⟩
        rw [h] at z
        obtain ⟨d3, w⟩ := zmF (d := d').mpr ⟨d2, Option.some.inj (Option.some.inj z)⟩
        exact ⟨d3, by rw [zcS hl, w]⟩
    · unfold zhc; rw [zaK e]
end
theorem Ret.back {K : PySem.W.Frag} {W W1 W2 : Addr → Prop} {ρ ρ1 : LW.Env} {σ σ1 : St} {H H1 H2 : Hp} {r : SV} {v : V} (p : SPost K W ρ σ H W1 ρ1 σ1 H1) (h : Ret K W1 ρ1 σ1 W2 H2 r v) : Ret K W ρ σ W2 H2 r v := by
  cases h with
  | val h => exact .val h
  | new h n n' e r => exact .new h (fun ⟨w, z⟩ => n (p.wout _ w z)) (fun ⟨i, z1, z2⟩ => n' ⟨i, (p.io i).1.mpr z1, by rw [(p.io i).2 z1]; exact z2⟩) e r
theorem FlOk.back {K : PySem.W.Frag} {W W1 W2 : Addr → Prop} {ρ ρ1 ρ2 : LW.Env} {σ σ1 σ2 : St} {H H1 H2 : Hp} {D : Ends} {fl : Fl} (p : SPost K W ρ σ H W1 ρ1 σ1 H1) (h : FlOk K W ρ σ W2 ρ2 σ2 H2 D fl) : FlOk K W1 ρ1 σ1 W2 ρ2 σ2 H2 D fl := by
  cases fl with
  | rt r => exact fun v q => h v (q.back p)
  | _ => exact h
structure IS (X : Cx) (ex : LW.Env → Option (Fl × LW.Env)) (st : Stmt) : Prop where
  h : PS X st (tSs X.K ex)
structure ISs (X : Cx) (ex : LW.Env → Option (Fl × LW.Env)) (st : List Stmt) : Prop where
  h : PSs X st (tSs X.K ex)
variable {fa : Nat → List D → Option Ans} {st : Stmt} {sts : List Stmt} {s : S} {ss s1 s2 : Ss}
theorem zaU : ISs X (zbq fa fuel .nil) [] := .mk <| zhg.imp fun D σ H zz3 => by
  obtain ⟨W, ρ, x, hR, hx, q⟩ := zz3
  simp only [znp] at hx; cases hx; exact q W σ H (.same hR (.refl H))
theorem zaw (h1 : IS X (exS fa fuel s) st) (h2 : ISs X (zbq fa fuel ss) sts) : ISs X (zbq fa fuel (.cons s ss)) (st :: sts) :=
  .mk <| (ze9 h1.h h2.h).imp fun D σ H zz3 => by
    obtain ⟨W, ρ, x, hR, hx, q⟩ := zz3
    simp only [zld, jo1] at hx
    obtain ⟨⟨fl, ρ1⟩, e1, e2⟩ := hx
    refine ⟨W, ρ, (fl, ρ1), hR, e1, fun W1 σ1 H1 p1 => ?_⟩
    cases fl with
    | nx => exact ⟨W1, ρ1, x, p1.r, e2, fun W2 σ2 H2 p2 => FlOk.back p1 (q W2 σ2 H2 (p1.trans p2 hR))⟩
    | br => cases e2; exact q W1 σ1 H1 p1
    | ct => cases e2; exact q W1 σ1 H1 p1
    | rt r => cases e2; exact q W1 σ1 H1 p1
theorem zcm (i : Nat) {pos' : Pos} (hN : X.N.Nodup) (hi : X.N[i]? = some x) (hx : Loc X.env.scope x) (he : IE X (prj fa) e ce) (hs : swapsWith e (some (.Name x pos')) pos.line X.env = pure false := by rfl)
    (hf : X.fn x = true ∨ X.env.scope.names.lookup x = some .local := by first | exact .inl rfl | exact .inr rfl | assumption) : IS X (exS fa fuel (.asg i ce)) (.Assign [.Name x pos'] e pos) :=
  .mk <| (zmw hN hi hx he.h hs hf).imp fun D σ H zz3 => by
    obtain ⟨W, ρ, y, hR, hy, q⟩ := zz3
    simp only [zpp, jo1] at hy
    obtain ⟨r, e1, e2⟩ := hy
    split at e2
    · cases e2
    · rename_i hl
      cases e2
      simp only [Bool.not_eq_true, Bool.or_eq_false_iff, Bool.not_eq_false'] at hl
      refine ⟨W, ρ, r, hR, e1, fun v H1 s1 h => ?_⟩
      cases h with
      | val h => exact q W _ H1 (zcl hR s1 h (zd9 hl.2))
      | new h e r => exact q _ _ H1 (zdG hR s1 h e r (zd9 hl.2))
      | see h e r => simp [SV.lent] at hl
theorem zcI (he : IE X (prj fa) e ce) : IS X (exS fa fuel (.ret ce)) (.Return (some e) pos) :=
  .mk <| (zhK he.h).imp fun D σ H zz3 => by
    obtain ⟨W, ρ, y, hR, hy, q⟩ := zz3
    simp only [zpr, jo1] at hy
    obtain ⟨r, e1, e2⟩ := hy
    split at e2
    · cases e2
    · rename_i hl
      cases e2
      refine ⟨W, ρ, r, hR, e1, fun v H1 s1 h => ?_⟩
      cases h with
      | val h => exact q W σ H1 (.same hR s1) v (.val h)
      | new h e r =>
        refine q _ σ H1 ⟨hR.add s1 h e, fun b o q _ => s1 b o q, (zdn (W := W) s1 h).win, fun b w n => ⟨.inl w, n⟩, fun _ => ⟨.rfl, fun _ => rfl⟩⟩ _ (.new (.inr rfl) (fun z => hR.wf _ z.1 h) (fun ⟨i, ⟨d, z1⟩, z2⟩ => hR.noOwn h ⟨i, _, d, z1, rfl, z2⟩) e r)
      | see h e r => simp [SV.lent] at hl
theorem zhY (i : Nat) (hN : X.N[i]? = some x) (hv : Vis X.env.scope x) (hd : (x == ("__debug__" : Str)) = false := by decide) (hcd : (x == ("__classdict__" : Str)) = false := by decide) : IS X (exS fa fuel (.retV i)) (.Return (some (.Name x p)) pos) :=
  .mk <| (zhK (zhJ hN hv hd hcd)).imp fun D σ H zz3 => by
    obtain ⟨W, ρ, y, hR, hy, q⟩ := zz3
    simp only [zjS] at hy
    split at hy
    · rename_i d h
      cases hy
      obtain ⟨v, h1, h2⟩ := hR.val i d h
      exact ⟨v, h1, q W σ H (.same hR (.refl H)) v (.val h2)⟩
    · rename_i o ds h
      cases hy
      cases o with
      | false => exact absurd h (hR.nol i ds)
      | true =>
      obtain ⟨a, xs, h1, h2, h3, h4⟩ := hR.own i _ ds h rfl
      refine ⟨_, h1, q W σ H ?_ _ (.new h2 (fun z => z.2 ⟨i, _, ds, h, rfl, h1⟩) (fun zz0 => by
        obtain ⟨j, ⟨d', z1⟩, z2⟩ := zz0
        have := hR.inj i j _ _ ds d' a h z1 rfl rfl h1 z2
        subst this
        rw [h] at z1; cases z1) h3 h4)⟩
      have old : ∀ {k : Nat} {z : SV}, (ρ.set i Option.none)[k]? = some (some z) → ρ[k]? = some (some z) := fun {k z} q => by
        rcases za1 q with ⟨_, w, _⟩ | ⟨_, w⟩
        · cases w
        · exact w
      exact ⟨⟨fun k d hk => hR.val k d (old hk), fun k d hk => hR.nol k d (old hk), fun k o es hk => hR.own k o es (old hk), fun k l x y e1 e2 b z1 z2 => hR.inj k l x y e1 e2 b (old z1) (old z2), hR.wf, by simpa using hR.len⟩, fun b o q _ => q, fun b w => .inl w, fun b w n => ⟨w, fun ⟨k, x, es, z1, c, z2⟩ => n ⟨k, x, es, old z1, c, z2⟩⟩,
        fun k => ⟨⟨fun ⟨d', z⟩ => ⟨d', old z⟩, fun ⟨d', z⟩ => ⟨d', by rw [zaK (fun e => by subst e; rw [h] at z; cases z)]; exact z⟩⟩, fun _ => rfl⟩⟩
    · cases hy
theorem zpA : IS X (exS fa fuel .stop) st := .mk <| zkV.imp fun D σ H zz3 => by
  obtain ⟨W, ρ, y, hR, hy, q⟩ := zz3
  simp only [zno] at hy; cases hy
theorem znD (hc : IT X (prj fa) c cc) (h1 : ISs X (zbq fa fuel s1) sts) (h2 : ISs X (zbq fa fuel s2) sts') : IS X (exS fa fuel (.ifs cc s1 s2)) (.If c sts sts' pos) :=
  .mk <| (zoP hc.h h1.h h2.h).imp fun D σ H zz3 => by
    obtain ⟨W, ρ, y, hR, hy, q⟩ := zz3
    simp only [zps, jo1] at hy
    obtain ⟨k, e1, e2⟩ := hy
    refine ⟨W, ρ, k, hR, e1, fun H1 w1 => ?_⟩
    have p1 := SPost.same hR w1
    show if k = true then tSs X.K (zbq fa fuel s1) D σ H1 else tSs X.K (zbq fa fuel s2) D σ H1
    cases k with
    | true => rw [if_pos rfl] at e2 ⊢; exact ⟨W, ρ, y, p1.r, e2, fun W2 σ2 H2 p2 => FlOk.back p1 (q W2 σ2 H2 (p1.trans p2 hR))⟩
    | false => rw [if_neg Bool.false_ne_true] at e2 ⊢; exact ⟨W, ρ, y, p1.r, e2, fun W2 σ2 H2 p2 => FlOk.back p1 (q W2 σ2 H2 (p1.trans p2 hR))⟩
theorem zpB (i : Nat) {apos cpos : Pos} (hN : X.N[i]? = some x) (hv : Vis X.env.scope x) (he : IE X (prj fa) e ce) (hst : starEach [e] X.env = (false, eval e X.env) :: starEach [] X.env) (hd : (x == ("__debug__" : Str)) = false) (hcd : (x == ("__classdict__" : Str)) = false)
    (hs : swapsWith (.Call (.Attribute (.Name x p) "append" apos) [e] [] cpos) Option.none pos.line X.env = pure false := by rfl)
    (hbase : attributeBase (.Name x p) "append" X.env (eval (.Name x p) X.env) = eval (.Name x p) X.env := by rfl)
    (hline : (apos.endLine == cpos.line) = true := by rfl) :
    IS X (exS fa fuel (.app i ce)) (.Expr (.Call (.Attribute (.Name x p) "append" apos) [e] [] cpos) pos) :=
  .mk <| (zjr (zsQ PySem.F.plainAttrs_list PySem.F.slot_list_append PySem.F.type_list_append zge (zhJ hN hv hd hcd) (zcg he.v zf8 hst) hbase (by rw [hst]; rfl) hline hst zan) hs).imp fun D σ H zz3 => by
    obtain ⟨W, ρ, y, hR, hy, q⟩ := zz3
    simp only [zmC] at hy
    split at hy
    · rename_i x h
      split at hy
      · rename_i ds hc
        simp only [jo1] at hy
        obtain ⟨r, e1, d, e2, e3⟩ := hy
        split at e3
        · rename_i hl
          cases e3
          obtain ⟨a, o, h1, h2, h3, h4⟩ := hR.own i _ _ h hc
          cases h4 with
          | lst h4 =>
          rename_i xs
          refine ⟨_, h1, .inl ⟨rfl, xs, .of h3⟩, ?_⟩
          refine ⟨W, ρ, r, hR, e1, fun v H1 w1 f => ?_⟩
          refine ⟨a, xs, v, rfl, rfl, w1 _ _ h3, ?_, ?_⟩
          · rw [← h4.length, ← zhl]; exact hl
          · exact q W σ _ (zlk hR h hc h1 w1 (w1 _ _ h3) ⟨fun _ z => (nomatch z), fun _ _ z => (nomatch z)⟩ (.lst ((h4.ext (.same w1)).append (.cons (f.toD e2) .nil))))
        · cases e3
      · cases hy
    · cases hy
end
end L2.LW
set_option maxHeartbeats 4000000
namespace L2.LW
open PySem PySem.Spec PyProof.Rows
noncomputable def Yl (K : PySem.W.Frag) (J : It) (W : Addr → Prop) (H : Hp) (ds : List D) : Prop :=
  ∀ W' H', Ext W H W' H' → ∀ k : Nat, (k = ds.length → J.stop k H') ∧ ∀ d, ds[k]? = some d → J.go k H' ∧ ∀ x H'', J.yld k H' x H'' → H'' = H' ∧ Rep K W' H' d x
noncomputable def Ys (K : PySem.W.Frag) (J : It) (W : Addr → Prop) (H : Hp) (ds : List D) : Prop :=
  ∀ W' H', Same H H' → (∀ a, W' a → W a ∨ H a = Option.none) → ∀ k : Nat, (k = ds.length → J.stop k H') ∧ ∀ d, ds[k]? = some d → J.go k H' ∧ ∀ x H'', J.yld k H' x H'' → H'' = H' ∧ Rep K W' H' d x
theorem Ext.sameW {W W' : Addr → Prop} {H H' : Hp} (s : Same H H') (w : ∀ a, W' a → W a ∨ H a = Option.none) : Ext W H W' H' := ⟨fun a o h _ => s a o h, fun a xs h => s a _ h, fun a o u h => s a _ h, w⟩
section
variable {K : PySem.W.Frag} {W : Addr → Prop} {H : Hp} {a : Addr} {xs : List V} {ds : List D}
theorem zj3 {H' : Hp} {W' : Addr → Prop} (hq : SqL K H' a xs) (rp : Reps K W' H' ds xs) (k : Nat) :
    (k = ds.length → (Itl K a).stop k H') ∧ ∀ d, ds[k]? = some d → (Itl K a).go k H' ∧ ∀ x H'', (Itl K a).yld k H' x H'' → H'' = H' ∧ Rep K W' H' d x := by
  refine ⟨fun e => ⟨xs, hq, by rw [← rp.length, e]; exact Nat.le_refl _⟩, fun d e => ?_⟩
  obtain ⟨v, e1, e2⟩ := rp.get e
  refine ⟨⟨xs, v, hq, e1⟩, fun x H'' ⟨z, y⟩ => ⟨z, ?_⟩⟩
  have := y xs hq
  rw [e1] at this
  cases this
  exact e2
theorem zmG {H' : Hp} {W' : Addr → Prop} (hq : SqT K H' a xs) (rp : Reps K W' H' ds xs) (k : Nat) :
    (k = ds.length → (Itt K a).stop k H') ∧ ∀ d, ds[k]? = some d → (Itt K a).go k H' ∧ ∀ x H'', (Itt K a).yld k H' x H'' → H'' = H' ∧ Rep K W' H' d x := by
  refine ⟨fun e => ⟨xs, hq, by rw [← rp.length, e]; exact Nat.le_refl _⟩, fun d e => ?_⟩
  obtain ⟨v, e1, e2⟩ := rp.get e
  refine ⟨⟨xs, v, hq, e1⟩, fun x H'' ⟨z, y⟩ => ⟨z, ?_⟩⟩
  have := y xs hq
  rw [e1] at this
  cases this
  exact e2
theorem zhZ {H' : Hp} {W' : Addr → Prop} {lo : Int} {n : Nat} (k : Nat) :
    (k = ((List.range n).map fun (k : Nat) => D.int (lo + (k : Int))).length → (Itr lo n).stop k H') ∧
      ∀ d, ((List.range n).map fun (k : Nat) => D.int (lo + (k : Int)))[k]? = some d → (Itr lo n).go k H' ∧ ∀ x H'', (Itr lo n).yld k H' x H'' → H'' = H' ∧ Rep K W' H' d x := by
  refine ⟨fun e => ?_, fun d e => ?_⟩
  · rw [List.length_map, List.length_range] at e
    exact Nat.le_of_eq e.symm
  · rw [List.getElem?_map, jo2] at e
    obtain ⟨j, e1, rfl⟩ := e
    obtain ⟨h1, h2⟩ := List.getElem?_eq_some_iff.mp e1
    rw [List.length_range] at h1
    rw [List.getElem_range] at h2
    subst h2
    exact ⟨h1, fun x H'' ⟨z, y⟩ => ⟨z, by rw [y]; exact .int _⟩⟩
theorem znE {W' : Addr → Prop} {H' : Hp} (h : (¬ W a ∧ Rd H a (.lst xs)) ∨ ztc K a xs) (x : Ext W H W' H') : SqL K H' a xs := by
  rcases h with ⟨n, h | ⟨o, h⟩⟩ | h
  · exact .inl (.inl (x.keep _ _ h n))
  · exact .inl (.inr ⟨o, x.keep _ _ h n⟩)
  · exact .inr h
end
noncomputable def zvD (K : PySem.W.Frag) (tl : TE) : TI := fun σ H R => tl σ H fun x H1 => ∃ a, x = .ref a ∧ (((∃ xs, SqL K H1 a xs) ∧ R (Itl K a) H1) ∨ ((∃ xs, SqT K H1 a xs) ∧ R (Itt K a) H1))
section
variable {X : Cx} {tg l : Expr}
theorem zpC {tl : TE} (hl : PE X l tl) : PI X tg l (zvD X.K tl) := by
  intro pins s σ H R I h
  refine thn (hl pins s σ H _ I h) fun v s1 ⟨x, H1, I1, r1, q1⟩ => ?_
  obtain ⟨a, e, q⟩ := q1
  subst e
  cases r1
  rcases q with ⟨⟨xs, hq⟩, q⟩ | ⟨⟨xs, hq⟩, q⟩
  · obtain ⟨its, rv, p, hz⟩ := I1.list hq
    refine wpAny_pyIter_list p.isList ?_
    refine ⟨s1.heap.objs.size, [s1.heap.objs.size], _, _, H1, rfl, I1.kept (t' := s1.toks) fun b o e => Heap.get?_push_of_some _ e, zjt a _, ⟨_, Heap.get?_push_size _ rfl, rfl, rfl⟩, fun b hb => ?_, q⟩
    have e : b = s1.heap.objs.size := by simpa using hb
    subst e
    exact I1.fpOk (Nat.le_refl _) (I1.hok.fresh (Nat.le_refl _))
  · obtain ⟨its, rv, p, hz⟩ := I1.tuple hq
    refine wpAny_pyIter_tuple (show s1.heap.IsTuple a its.toArray from p) ?_
    refine ⟨s1.heap.objs.size, [s1.heap.objs.size], _, _, H1, rfl, I1.kept (t' := s1.toks) fun b o e => Heap.get?_push_of_some _ e, zio a _, ⟨_, Heap.get?_push_size _ rfl, rfl, rfl⟩, fun b hb => ?_, q⟩
    have e : b = s1.heap.objs.size := by simpa using hb
    subst e
    exact I1.fpOk (Nat.le_refl _) (I1.hok.fresh (Nat.le_refl _))
end
noncomputable def tI (K : PySem.W.Frag) (fn : Nat → List D → Option SV) (rng : Bool) (src : Es) : TI := fun σ H R0 => ∃ W ρ rs ds, R K W ρ σ H ∧ zbV fn src ρ = some rs ∧ zaN rng rs = some ds ∧
  ∀ J H', Same H H' → Ys K J W H' ds → (rs.any SV.lent = false → Yl K J W H' ds) → R0 J H'
structure Src (X : Cx) (fn : Nat → List D → Option SV) (tg e : Expr) (rng : Bool) (src : Es) : Prop where
  h : PI X tg e (tI X.K fn rng src)
theorem _root_.L2.PI.imp {X : Cx} {tg l : Expr} {t t' : TI} (h : PI X tg l t) (i : ∀ σ H Q, t' σ H Q → t σ H Q) : PI X tg l t' := fun pins s σ H Q I q => h pins s σ H Q I (i σ H Q q)
section
variable {X : Cx} {fn : Nat → List D → Option SV} {fuel : Nat} {a b c e tg : Expr} {ca cb cc ce : E} {es : List Expr} {cs : Es} {pos p : Pos} {x : Str}
theorem znF (he : IE X fn e ce) : Src X fn tg e false (.cons ce .nil) :=
  .mk <| (zpC he.v).imp fun σ H R0 zz3 => by
    obtain ⟨W, ρ, rs, ds, hR, h1, h2, q⟩ := zz3
    simp only [zb2, zbB, jo1, jo2] at h1
    obtain ⟨r, e1, rs', e3, rfl⟩ := h1
    cases e3
    simp only [zaN] at h2
    refine ⟨W, ρ, r, hR, e1, fun v H1 s1 f => ?_⟩
    unfold zhj at h2
    split at h2
    · rename_i l hd
      cases h2
      have hs := f.sees
      rw [hd] at hs
      obtain ⟨a, xs, rfl, hq, rp⟩ := hs.tupH
      refine ⟨a, rfl, .inr ⟨⟨xs, .of hq⟩, q _ H1 s1 (fun W' H' s w k => zmG (.of (s _ _ hq)) (rp.ext (.sameW s w)) k) fun _ W' H' x k => zmG (.of (x.tup _ _ hq)) (rp.ext x) k⟩⟩
    · rename_i l hd
      cases h2
      have hs := f.sees
      rw [hd] at hs
      obtain ⟨a, xs, rfl, hq, rp⟩ := hs.lst
      refine ⟨a, rfl, .inl ⟨⟨xs, hq⟩, q _ H1 s1 (fun W' H' s w k => zj3 (s.seq hq) (rp.ext (.sameW s w)) k) fun hl W' H' x k => ?_⟩⟩
      have hl' : r.lent = false := by simpa using hl
      cases f with
      | val h =>
        change _ = D.lst _ at hd
        subst hd
        cases h with
        | lst h r' => exact zj3 (znE h x) (r'.ext x) k
      | lis h e r' =>
        change _ = D.lst _ at hd
        subst hd
        cases r' with
        | lst r' => exact zj3 (.of (x.keep _ _ e h)) (r'.ext x) k
      | see h e r' => simp [SV.lent] at hl'
    · cases h2
theorem zdY (hg : Gl X "range") (hm : X.mg "range" = Option.none) (ha : IA X fn [a] (.cons ca .nil)) (hs : starEach [a] X.env = (false, eval a X.env) :: starEach [] X.env) : Src X fn tg (.Call (.Name "range" p) [a] [] pos) true (.cons ca .nil) :=
  .mk <| (zju hg hm ha.h hs).imp fun σ H R0 zz3 => by
    obtain ⟨W, ρ, rs, ds, hR, h1, h2, q⟩ := zz3
    refine ⟨W, ρ, rs, hR, h1, fun vs H1 s1 f => ?_⟩
    simp only [zb2, zbB, jo1, jo2] at h1
    obtain ⟨r, e1, rs', e3, rfl⟩ := h1
    cases e3
    obtain ⟨v, rfl, g⟩ : ∃ v, vs = [v] ∧ Frz X.K W H1 r v := by
      cases f with
      | cons f t => cases t; exact ⟨_, rfl, f⟩
    clear f
    cases g with
    | val g =>
      cases g with
      | int n =>
        simp only [zaN] at h2
        split at h2
        · rename_i hn
          cases h2
          exact ⟨n, rfl, hn.1, hn.2, q _ H1 s1 (fun W' H' s w k => zhZ k) fun _ W' H' x k => zhZ k⟩
        · cases h2
      | _ => simp [zaN] at h2
    | _ => simp [zaN] at h2
theorem zll (hg : Gl X "range") (hm : X.mg "range" = Option.none) (ha : IA X fn [a, b] (.cons ca (.cons cb .nil))) (hs : starEach [a, b] X.env = (false, eval a X.env) :: starEach [b] X.env) (hs2 : starEach [b] X.env = (false, eval b X.env) :: starEach [] X.env) :
    Src X fn tg (.Call (.Name "range" p) [a, b] [] pos) true (.cons ca (.cons cb .nil)) :=
  .mk <| (zjv hg hm ha.h (by rw [hs, hs2]; rfl) hs2).imp fun σ H R0 zz3 => by
    obtain ⟨W, ρ, rs, ds, hR, h1, h2, q⟩ := zz3
    refine ⟨W, ρ, rs, hR, h1, fun vs H1 s1 f => ?_⟩
    simp only [zb2, zbB, jo1, jo2] at h1
    obtain ⟨r, e1, rs', ⟨r2, e2, rs'', e3, rfl⟩, rfl⟩ := h1
    cases e3
    obtain ⟨v, v2, rfl, g, f2⟩ : ∃ v v2, vs = [v, v2] ∧ Frz X.K W H1 r v ∧ Frz X.K W H1 r2 v2 := by
      cases f with
      | cons f t => cases t with
        | cons f' t => cases t; exact ⟨_, _, rfl, f, f'⟩
    clear f
    cases g with
    | val g =>
      cases f2 with
      | val f2 =>
        cases g with
        | int n =>
          cases f2 with
          | int m =>
            simp only [zaN] at h2
            split at h2
            · rename_i hn
              cases h2
              exact ⟨n, m, rfl, ⟨hn.1.1, hn.1.2, hn.2.1, hn.2.2⟩, q _ H1 s1 (fun W' H' s w k => zhZ k) fun _ W' H' x k => zhZ k⟩
            · cases h2
          | _ => simp [zaN] at h2
        | _ => simp [zaN] at h2
      | _ => simp [zaN] at h2
    | _ => simp [zaN] at h2
theorem zgl {α : Type} {l : List α} {k : Nat} {d : α} (h : l[k]? = some d) : l.drop k = d :: l.drop (k + 1) := by
  obtain ⟨h1, h2⟩ := List.getElem?_eq_some_iff.mp h
  rw [List.drop_eq_getElem_cons h1, h2]
theorem zlm {K : PySem.W.Frag} {J : It} {ds : List D} {i : Nat} {ex : LW.Env → Option (Fl × LW.Env)} {W : Addr → Prop} {ρ : LW.Env} {σ : St} {H : Hp} {x : Fl × LW.Env} {D0 : Ends} (hR : R K W ρ σ H) (hfr : ¬ zhc ρ i) (hy : Yl K J W H ds)
    (hx : zhb i ex ds ρ = some x) (q : ∀ W' σ' H', SPost K W ρ σ H W' x.2 σ' H' → FlOk K W ρ σ W' x.2 σ' H' D0 x.1) :
    ∃ Wv : Nat → Nat → St → Hp → Prop, (∃ m, Wv 0 m σ H) ∧ ∀ k m σ' H', Wv k m σ' H' →
      (J.stop k H' ∧ D0.nx σ' H') ∨ (J.go k H' ∧ ∃ N : St → Hp → Prop, (∀ σ2 H2, N σ2 H2 → ∃ m', m' < m ∧ Wv (k + 1) m' σ2 H2) ∧ ∀ v H2, J.yld k H' v H2 → zmZ i v σ' H2 fun σ2 H2 => tSs K ex { D0 with nx := N, ct := N, bk := D0.nx } σ2 H2) := by
  refine ⟨fun k m σ' H' => m = ds.length - k ∧ k ≤ ds.length ∧ ∃ W' ρ', SPost K W ρ σ H W' ρ' σ' H' ∧ zhb i ex (ds.drop k) ρ' = some x, ⟨_, rfl, Nat.zero_le _, W, ρ, .same hR (.refl H), hx⟩, ?_⟩
  rintro k m σ' H' ⟨rfl, hk, W', ρ', p, hf⟩
  obtain ⟨hstop, hgo⟩ := hy W' H' (p.ext hR) k
  by_cases hlt : k < ds.length
  · have hd : ds[k]? = some ds[k] := by simp [hlt]
    obtain ⟨g1, g2⟩ := hgo _ hd
    rw [zgl hd, zhb, jo1] at hf
    obtain ⟨⟨fl, ρ2⟩, e1, e2⟩ := hf
    refine .inr ⟨g1, fun σ2 H2 => (ds.length - (k + 1)) = ds.length - (k + 1) ∧ k + 1 ≤ ds.length ∧ ∃ W' ρ', SPost K W ρ σ H W' ρ' σ2 H2 ∧ zhb i ex (ds.drop (k + 1)) ρ' = some x, fun σ2 H2 h => ⟨_, by omega, h⟩, fun v H2 y => ?_⟩
    obtain ⟨rfl, rv⟩ := g2 v H2 y
    have p1 := zcl (i := i) p.r (.refl H2) rv fun z => hfr ((p.io i).1.mp z)
    have p01 := p.trans p1 hR
    refine ⟨W', _, (fl, ρ2), p1.r, e1, fun W3 σ3 H3 p3 => ?_⟩
    have p03 := p01.trans p3 hR
    cases fl with
    | nx => exact ⟨rfl, hlt, W3, ρ2, p03, e2⟩
    | ct => exact ⟨rfl, hlt, W3, ρ2, p03, e2⟩
    | br => cases e2; exact q W3 σ3 H3 p03
    | rt r => cases e2; exact fun v hv => q W3 σ3 H3 p03 v (hv.back p01)
  · have e : k = ds.length := by omega
    rw [List.drop_of_length_le (by omega), zhb] at hf
    cases hf
    exact .inl ⟨hstop e, q W' σ' H' p⟩
variable {fa : Nat → List D → Option Ans} {sts : List Stmt} {ss : Ss}
theorem znG (i : Nat) {rng : Bool} {src : Es} {px : Pos} (hp : PassesOwn (model X.prog X.w) X.A X.env X.xe) (hc : X.calm = true) (hN : X.N.Nodup) (hi : X.N[i]? = some x) (hx : Loc X.env.scope x) (hs : Src X (prj fa) (.Name x px) e rng src) (hb : ISs X (zbq fa fuel ss) sts)
    (hf : X.fn x = true ∨ X.env.scope.names.lookup x = some .local := by first | exact .inl rfl | exact .inr rfl | assumption) (hfo : ∀ x, foldedSetIterable e X.env x = pure x := by intro _; rfl) : IS X (exS fa fuel (.for_ i rng src ss)) (.For (.Name x px) e sts [] pos) :=
  .mk <| (zoR hp hc hs.h (zjs hN hi hx hf) hb.h hfo).imp fun D0 σ H zz3 => by
    obtain ⟨W, ρ, y, hR, hy, q⟩ := zz3
    simp only [znn, jo1] at hy
    obtain ⟨rs, e1, e2⟩ := hy
    split at e2
    · cases e2
    · rename_i hl
      simp only [Bool.not_eq_true, Bool.or_eq_false_iff, Bool.not_eq_false'] at hl
      rw [jo1] at e2
      obtain ⟨ds, e3, e4⟩ := e2
      refine ⟨W, ρ, rs, ds, hR, e1, e3, fun J H1 s1 _ hyl => ?_⟩
      have p1 := SPost.same hR s1
      exact zlm p1.r (zd9 hl.2) (hyl hl.1) e4 fun W' σ' H' p => FlOk.back p1 (q W' σ' H' (p1.trans p hR))
end
theorem zgm (io : List Nat) : ∀ (ds : List D) (k i : Nat), (zcH io k ds)[i]? = (ds[i]?).map fun d => some (if io.contains (k + i) then SV.io d else .val d)
  | [], k, i => by simp [zcH]
  | d :: r, k, 0 => by simp [zcH]
  | d :: r, k, i + 1 => by
    rw [zcH, List.getElem?_cons_succ, zgm io r (k + 1) i, List.getElem?_cons_succ]
    have : k + 1 + i = k + (i + 1) := by omega
    rw [this]
theorem zcn (io : List Nat) : ∀ (ds : List D) (k : Nat), (zcH io k ds).length = ds.length
  | [], k => rfl
  | d :: r, k => by simp [zcH, zcn io r (k + 1)]
theorem zj4 {io : List Nat} {ds : List D} {n : Nat} {i : Nat} {x : SV} (h : (zcH io 0 ds ++ List.replicate n Option.none)[i]? = some (some x)) :
    ∃ d, ds[i]? = some d ∧ x = if io.contains i then SV.io d else .val d := by
  by_cases hi : i < ds.length
  · rw [List.getElem?_append_left (by rw [zcn]; exact hi), zgm, jo2] at h
    obtain ⟨d, e1, e2⟩ := h
    rw [Nat.zero_add] at e2
    exact ⟨d, e1, (Option.some.inj e2).symm⟩
  · rw [List.getElem?_append_right (by rw [zcn]; omega)] at h
    rw [List.getElem?_replicate] at h
    split at h <;> cases h
theorem zb4 {N : List Str} {vs : List V} {i : Nat} {v : V} (h : vs[i]? = some v) : (zch N vs)[i]? = some (some v) := by
  have hi : i < vs.length := (List.getElem?_eq_some_iff.mp h).1
  unfold zch
  rw [List.getElem?_append_left (by simpa using hi), List.getElem?_map, h]
  rfl
theorem zhq {K : PySem.W.Frag} {W W' : Addr → Prop} {H' : Hp} {ρ' : LW.Env} {σ' : St} {vs : List V} (hR : R K W' ρ' σ' H') (sub : ∀ b, W b → W' b) : ∀ {io : List Nat} {outs : List D}, zbW ρ' io = some outs → (∀ k ∈ io, zhc ρ' k → ∃ a, σ'[k]? = some (some (.ref a)) ∧ vs[k]? = some (.ref a)) → zuK K W H' io vs outs
  | [], outs, e, _ => by simp only [zbW] at e; cases e; exact .nil
  | k :: r, outs, e, hs => by
    simp only [zbW] at e
    split at e
    · rename_i d h
      rw [jo2] at e
      obtain ⟨l, e1, rfl⟩ := e
      obtain ⟨a, h1, h2⟩ := hs k List.mem_cons_self ⟨d, h⟩
      obtain ⟨a', o, h3, _, h5, h6⟩ := hR.own k _ d h rfl
      rw [h1] at h3; cases h3
      exact .cons ⟨a, o, h2, h5, h6.less sub⟩ (zhq hR sub e1 fun j hj => hs j (List.mem_cons_of_mem _ hj))
    · cases e
theorem zdU {Pg : Program} {w : World} {K : PySem.W.Frag} {mg : Str → Option Value} {base : Heap} {x qual : Str} {st : Stmt} {f : Addr} {fd : FuncData} {N ps : List Str} {k n i : Nat} {P : Nat → Option Fn} {fuel : Nat} {F0 : Fn} {io : List Nat}
    (F : Fun K x qual st f fd) (S : FnScope N ps (zaa st)) (hP : P i = some F0) (hnp : F0.np = ps.length) (hnl : F0.nl = N.length) (hio : F0.io = io) (hiop : io.all (fun k => decide (k < F0.np)) = true) (hxb : F0.xb = Option.none)
    (hbody : ∀ (cdv : Value) (A : Around) (outer : List PySem.Env) (s : Shared) (H : Hp) (E : XK), Room k (A.deeper (envOfC qual (zaa st) s.heap.objs.size f cdv)) →
      ISs (zbM CX0 Pg w K mg base N qual (zaa st) f cdv A outer s H E).nox (zbq (zah P fuel n) fuel F0.body) (zae st)) :
    FnOk Pg w K mg base CX0 (k + 1) f fd ps (spA K (zah P fuel (n + 1)) i io) := by
  subst hio
  have dec : ∀ {ds : List D} {r : Ans}, zah P fuel (n + 1) i ds = some r → ds.length = F0.np ∧ znj F0.io (zbq (zah P fuel n) fuel F0.body (zcH F0.io 0 ds ++ List.replicate (F0.nl - F0.np) Option.none)) = some r := fun {ds r} h => by
    rw [zah, hP] at h
    simp only [Option.bind_some, hxb] at h
    split at h
    · exact ⟨by assumption, h⟩
    · cases h
  refine F.ok S (fun vs H Q E h => ?_) (fun cdv A outer s H vs Q E hr h => ⟨_, (hbody cdv A outer s H E hr).h, ?_⟩)
  · obtain ⟨W, ds, r, outs, wf, rp, e, _⟩ := h
    rw [← rp.len, (dec e).1, hnp]
  · obtain ⟨W, ds, r, outs, wf, rp, e, q⟩ := h
    obtain ⟨hl, he⟩ := dec e
    have hlv := rp.len
    have hplN : ps.length ≤ N.length := by have := congrArg List.length S.pre; rw [List.length_take] at this; omega
    generalize hρ : zcH F0.io 0 ds ++ List.replicate (F0.nl - F0.np) Option.none = ρ at he
    have at_ : ∀ {j : Nat} {x : SV}, ρ[j]? = some (some x) → ∃ d, ds[j]? = some d ∧ x = if F0.io.contains j then SV.io d else .val d := fun {j x} h => by rw [← hρ] at h; exact zj4 h
    have own_io : ∀ a, Own ρ (zch N vs) a → ioV F0.io vs a := fun a zz1 => by
      obtain ⟨j, x, d, h1, hc, h2⟩ := zz1
      obtain ⟨d', e1, e2⟩ := at_ h1
      split at e2
      · rename_i hj
        have hj : j ∈ F0.io := by simpa using hj
        obtain ⟨b, o, h3, _⟩ := rp.obj j d' e1 hj
        rw [zb4 h3] at h2
        cases h2
        exact ⟨j, hj, h3⟩
      · subst e2; cases hc
    have hR : R K W ρ (zch N vs) H := by
      refine ⟨fun j d h => ?_, fun j d h => ?_, fun j x d h hc => ?_, fun j k x y d e a h1 h2 c1 c2 h3 h4 => ?_, wf, ?_⟩
      · obtain ⟨d', e1, e2⟩ := at_ h
        split at e2
        · cases e2
        · rename_i hj
          cases e2
          obtain ⟨v, h1, h2⟩ := rp.val j d e1 (by simpa using hj)
          exact ⟨v, zb4 h1, h2⟩
      · obtain ⟨d', e1, e2⟩ := at_ h
        split at e2 <;> cases e2
      · obtain ⟨d', e1, e2⟩ := at_ h
        split at e2
        · rename_i hj
          subst e2; cases hc
          obtain ⟨b, o, h3, h4, h5, h6⟩ := rp.obj j d e1 (by simpa using hj)
          exact ⟨b, o, zb4 h3, h4, h5, h6⟩
        · subst e2; cases hc
      · obtain ⟨d1, e1, e2⟩ := at_ h1
        obtain ⟨d2, e3, e4⟩ := at_ h2
        split at e2
        · rename_i hj
          split at e4
          · rename_i hk
            have hj : j ∈ F0.io := by simpa using hj
            have hk : k ∈ F0.io := by simpa using hk
            obtain ⟨b, o, z1, _⟩ := rp.obj j d1 e1 hj
            obtain ⟨b', o', z2, _⟩ := rp.obj k d2 e3 hk
            rw [zb4 z1] at h3; cases h3
            rw [zb4 z2] at h4; cases h4
            exact rp.inj j k _ hj hk z1 z2
          · subst e4; cases c2
        · subst e2; cases c1
      · rw [← hρ]
        unfold zch
        rw [List.length_append, List.length_append, zcn, List.length_map, List.length_replicate, List.length_replicate]
        omega
    cases hx : zbq (zah P fuel n) fuel F0.body ρ with
    | none => rw [hx] at he; cases he
    | some y =>
      rw [hx] at he
      obtain ⟨fl, ρ'⟩ := y
      refine ⟨W, ρ, (fl, ρ'), hR, hx, fun W' σ' H' p => ?_⟩
      have kp : ∀ a o, H a = some o → ¬ ioV F0.io vs a → H' a = some o := fun b o h n => p.keep b o h fun z => n (own_io b z)
      have io_at : ∀ k ∈ F0.io, zhc ρ' k → ∃ a, σ'[k]? = some (some (.ref a)) ∧ vs[k]? = some (.ref a) := fun j hj z => by
        have z0 := (p.io j).1.mp z
        obtain ⟨d0, z1⟩ := z0
        obtain ⟨d', e1, e2⟩ := at_ z1
        obtain ⟨b, o, h3, _⟩ := rp.obj j d' e1 hj
        exact ⟨b, by rw [(p.io j).2 ⟨d0, z1⟩, zb4 h3], h3⟩
      have sub : ∀ b, W b → W' b := fun b w => by
        by_cases hb : Own ρ (zch N vs) b
        · obtain ⟨j, x, d, h1, hc, h2⟩ := hb
          obtain ⟨d', e1, e2⟩ := at_ h1
          split at e2
          · subst e2
            obtain ⟨d2, z⟩ := (p.io j).1.mpr ⟨d', h1⟩
            obtain ⟨a', o, h3, h4, _⟩ := p.r.own j _ d2 z rfl
            rw [(p.io j).2 ⟨d', h1⟩, h2] at h3
            cases h3
            exact h4
          · subst e2; cases hc
        · exact (p.wout b w hb).1
      cases fl with
      | br => cases he
      | ct => cases he
      | nx =>
        simp only [znj, jo2] at he
        obtain ⟨l, e1, e2⟩ := he
        cases e2
        exact q _ H' kp (zhq p.r sub e1 io_at) (.val .non)
      | rt r' =>
        simp only [znj, jo2] at he
        obtain ⟨l, e1, e2⟩ := he
        cases e2
        intro v hv
        have ho := zhq p.r sub e1 io_at
        cases hv with
        | val h => exact q v H' kp ho (.val (h.less sub))
        | new h nn n' eL rr =>
          have ha := (p.win _ h).resolve_left fun w => nn ⟨w, fun zz0 => by
            obtain ⟨j, x, d, h1, hc, h2⟩ := zz0
            obtain ⟨d', e1, e2⟩ := at_ h1
            split at e2
            · subst e2; exact n' ⟨j, ⟨d', h1⟩, h2⟩
            · subst e2; cases hc⟩
          refine q _ H' kp ho (.new ha eL (rr.less fun b w => ?_))
          rcases w with w | rfl
          · exact sub b w
          · exact h
end L2.LW
set_option maxHeartbeats 4000000
namespace L2.LW
open PySem PySem.Spec PyProof.Rows
noncomputable def zhd (env : PySem.Env) : List (Str × NameKind) → List (Str × Addr) → List (Str × Addr)
  | [], acc => acc
  | (n, k) :: r, acc => if k == .free then zhd env r ((n, (env.cells.lookup n).getD 0) :: acc) else zhd env r acc
theorem zeS (env : PySem.Env) : ∀ (names : List (Str × NameKind)) (acc : List (Str × Addr)), (∀ y ∈ names, y.2 = .free → (env.cells.lookup y.1).isSome = true) →
    (forIn names acc fun (x : Str × NameKind) (cs : List (Str × Addr)) => (if (x.2 == NameKind.free) = true then (do let c ← cellOf env x.1; pure (ForInStep.yield ((x.1, c) :: cs)) : Sem (ForInStep (List (Str × Addr)))) else pure (ForInStep.yield cs))) = (pure (zhd env names acc) : Sem (List (Str × Addr)))
  | [], acc, _ => rfl
  | (n, k) :: r, acc, h => by
    have ih := fun acc => zeS env r acc fun y hy => h y (List.mem_cons_of_mem _ hy)
    rw [List.forIn_cons]
    by_cases hk : (k == NameKind.free) = true
    · have hs := h (n, k) List.mem_cons_self (by simpa using hk)
      obtain ⟨c, hc⟩ := Option.isSome_iff_exists.mp hs
      have hc : env.cells.lookup n = some c := hc
      simp only [hk, if_true, cellOf, hc, zhd, Option.getD_some]
      show (forIn r ((n, c) :: acc) _ : Sem _) = _
      exact ih _
    · simp only [hk, if_false, zhd]
      show (forIn r acc _ : Sem _) = _
      exact ih _
theorem zef {scope : Scope} {env : PySem.Env} (h : ∀ y ∈ scope.names, y.2 = .free → (env.cells.lookup y.1).isSome = true) : closureFor scope env = pure (zhd env scope.names []) := by
  have key : closureFor scope env = ((forIn scope.names ([] : List (Str × Addr)) fun (x : Str × NameKind) (cs : List (Str × Addr)) =>
    (if (x.2 == NameKind.free) = true then (do let c ← cellOf env x.1; pure (ForInStep.yield ((x.1, c) :: cs)) : Sem (ForInStep (List (Str × Addr)))) else pure (ForInStep.yield cs))) >>= fun cs => pure cs) := rfl
  rw [key, zeS env scope.names [] h]
  rfl
theorem zb5 {env : PySem.Env} {y : Str} {c : Addr} : ∀ {names : List (Str × NameKind)} {acc : List (Str × Addr)}, (∀ z ∈ names, z.2 = .free → (env.cells.lookup z.1).isSome = true) → (zhd env names acc).lookup y = some c →
    acc.lookup y = some c ∨ env.cells.lookup y = some c
  | [], _, _, e => .inl e
  | (n, k) :: r, acc, h, e => by
    unfold zhd at e
    split at e
    · rename_i hk
      rcases zb5 (fun z hz => h z (List.mem_cons_of_mem _ hz)) e with q | q
      · rw [List.lookup_cons] at q
        split at q
        · rename_i hy
          have hy : y = n := by simpa using hy
          subst hy
          obtain ⟨c', hc⟩ := Option.isSome_iff_exists.mp (h (y, k) List.mem_cons_self (by simpa using hk))
          have hc : env.cells.lookup y = some c' := hc
          rw [hc] at q
          cases q
          exact .inr hc
        · exact .inl q
      · exact .inr q
    · exact zb5 (fun z hz => h z (List.mem_cons_of_mem _ hz)) e
theorem zfp {env : PySem.Env} {y : Str} : ∀ {names : List (Str × NameKind)} {acc : List (Str × Addr)}, ((acc.lookup y).isSome = true ∨ (y, NameKind.free) ∈ names) → ((zhd env names acc).lookup y).isSome = true
  | [], acc, h => by
    rcases h with h | h
    · exact h
    · cases h
  | (n, k) :: r, acc, h => by
    unfold zhd
    split
    · rename_i hk
      refine zfp ?_
      by_cases e : y = n
      · subst e; exact .inl (by simp)
      · have hb : (y == n) = false := by simpa using e
        rcases h with h | h
        · exact .inl (by rw [List.lookup_cons, hb]; exact h)
        · rcases List.mem_cons.mp h with z | z
          · cases z; exact absurd rfl e
          · exact .inr z
    · rename_i hk
      refine zfp ?_
      rcases h with h | h
      · exact .inl h
      · rcases List.mem_cons.mp h with z | z
        · cases z; exact absurd rfl hk
        · exact .inr z
noncomputable def zmH (x : Str) (N : List Str) : List Str := N.map fun y => if y = x then ("" : Str) else y
noncomputable def zcK (scope : Scope) (x : Str) (c : Addr) (cl : List (Str × Addr)) : List (Str × Addr) := if scope.names.lookup x = some .cell then (x, c) :: cl else cl
noncomputable def zbt (X : Cx) (scope : Scope) (x : Str) (s₃ : Shared) (H₃ : Hp) (fp : List Addr) (pins : List (Addr × Obj)) : Cx :=
  { X with N := x :: zmH x X.N, s₀ := s₃, H₀ := H₃, env := compEnvC scope (zcK scope x (s₃.heap.objs.size + 1) (zhd X.env scope.names [])) s₃.heap.objs.size X.env, outer := X.stack, stack := X.stack, ex := fp, fn := fun y => decide (y = x) && decide (scope.names.lookup x = some .cell), pn := X.pn ++ pins, xe := fun _ _ => False }
structure CompSc (X : Cx) (scope : Scope) (x : Str) : Prop where
  kind : scope.kind = .function
  loc : scope.names.lookup x = some .local ∨ scope.names.lookup x = some .cell
  names : ∀ y ∈ scope.names, y.2 = .local → scope.names.lookup y.1 = some .local
  cell1 : scope.names.filter (fun y => y.2 == .cell) = if scope.names.lookup x = some .cell then [(x, .cell)] else []
  free : ∀ y ∈ scope.names, y.2 = .free → X.env.scope.names.lookup y.1 = some .cell ∨ X.env.scope.names.lookup y.1 = some .free
  own : ∀ y ∈ X.N, scope.names.lookup y = some .local → y = x
  none : scope.names.lookup ("" : Str) = Option.none
  nd : (x :: zmH x X.N).Nodup
theorem zcy {y : Str} {k : NameKind} : ∀ {l : List (Str × NameKind)}, l.lookup y = some k → (y, k) ∈ l
  | [], h => by cases h
  | (n, j) :: r, h => by
    rw [List.lookup_cons] at h
    split at h
    · rename_i e
      have e : y = n := by simpa using e
      cases h; subst e
      exact List.mem_cons_self
    · exact List.mem_cons_of_mem _ (zcy h)
theorem za9 {env : PySem.Env} {y : Str} {k : NameKind} : ∀ {names : List (Str × NameKind)},
    (names.map fun (z : Str × NameKind) => match z with | (n, k) => if (k == NameKind.free && env.scope.kind == .function && env.kindOf n == some .cell) = true then (n, NameKind.cell) else (n, k)).lookup y = some k →
    names.lookup y = some k ∨ (k = .cell ∧ names.lookup y = some .free)
  | [], h => by cases h
  | (n, j) :: r, h => by
    rw [List.map_cons, List.lookup_cons] at h
    rw [List.lookup_cons]
    by_cases hc : (j == NameKind.free && env.scope.kind == .function && env.kindOf n == some .cell) = true
    · simp only [hc, if_true] at h
      cases e : y == n with
      | true =>
        rw [e] at h
        cases h
        have hj : j = .free := by
          simp only [Bool.and_eq_true] at hc
          simpa using hc.1.1
        exact .inr ⟨rfl, by rw [hj]⟩
      | false => rw [e] at h; exact za9 h
    · simp only [hc, Bool.false_eq_true, if_false] at h
      cases e : y == n with
      | true => rw [e] at h; exact .inl h
      | false => rw [e] at h; exact za9 h
section
variable {X : Cx} {scope : Scope} {x : Str} {s₃ : Shared} {H₃ : Hp} {fp : List Addr} {pins : List (Addr × Obj)} {σ : St}
theorem CompSc.onlyC (S : CompSc X scope x) {y : Str} (h : scope.names.lookup y = some .cell) : y = x ∧ scope.names.lookup x = some .cell := by
  have hm : (y, NameKind.cell) ∈ scope.names.filter (fun y => y.2 == .cell) := List.mem_filter.mpr ⟨zcy h, rfl⟩
  rw [S.cell1] at hm
  split at hm
  · simp at hm; subst hm; exact ⟨rfl, h⟩
  · cases hm
theorem zc0 {x : Str} : ∀ (names : List (Str × NameKind)) (a : Nat) (acc : List (Str × Addr)) (h : Heap), names.filter (fun y => y.2 == .cell) = [(x, .cell)] → cellsFrom a names acc = (x, a) :: acc ∧ pushCells h names = h.push { cls := .type "cell", data := .cell Option.none }
  | [], _, _, _, e => by cases e
  | (n, k) :: r, a, acc, h, e => by
    have none_ : ∀ (names : List (Str × NameKind)) (a : Nat) (acc : List (Str × Addr)) (h : Heap), names.filter (fun y => y.2 == .cell) = [] → cellsFrom a names acc = acc ∧ pushCells h names = h := by
      intro names
      induction names with
      | nil => intro a acc h _; exact ⟨rfl, rfl⟩
      | cons y r ih =>
        intro a acc h e
        obtain ⟨n, k⟩ := y
        rw [List.filter_cons] at e
        split at e
        · cases e
        · rename_i hk
          have hk : (k == NameKind.cell) = false := by simpa using hk
          unfold cellsFrom pushCells
          rw [hk]
          exact ih a acc h e
    rw [List.filter_cons] at e
    split at e
    · rename_i hk
      injection e with e1 e2
      cases e1
      unfold cellsFrom pushCells
      simp only [beq_self_eq_true, if_true]
      exact none_ r _ _ _ e2
    · rename_i hk
      have hk : (k == NameKind.cell) = false := by simpa using hk
      unfold cellsFrom pushCells
      rw [hk]
      exact zc0 r a acc h e
theorem zcL : ∀ (names : List (Str × NameKind)) (a : Nat) (acc : List (Str × Addr)) (h : Heap), names.filter (fun y => y.2 == .cell) = [] → cellsFrom a names acc = acc ∧ pushCells h names = h
  | [], _, _, _, _ => ⟨rfl, rfl⟩
  | (n, k) :: r, a, acc, h, e => by
    rw [List.filter_cons] at e
    split at e
    · cases e
    · rename_i hk
      have hk : (k == NameKind.cell) = false := by simpa using hk
      unfold cellsFrom pushCells
      rw [hk]
      exact zcL r a acc h e
theorem zhr {M : Model} {A : Around} {E : Value → Shared → Prop} {s : Shared} {globals : Addr} {cl : List (Str × Addr)} {qual : Str} {env : PySem.Env} {Q : PySem.Env → Shared → Prop} (S : CompSc X scope x)
    (h : ∀ h₁, h₁.Ns s.heap.objs.size (fun _ => Option.none) → (∀ b o, s.heap.get? b = some o → h₁.get? b = some o) → (scope.names.lookup x = some .cell → h₁.IsCell (s.heap.objs.size + 1) Option.none) →
      Q (newEnv scope s.heap.objs.size globals (zcK scope x (s.heap.objs.size + 1) cl) qual Option.none .none (some env) builtinsNs) { s with heap := h₁ }) :
    wpAny M A (newFunctionEnv scope globals cl [] qual Option.none .none (some env)) Q E s := by
  simp only [newFunctionEnv, Option.isSome_some, if_true]
  refine wpAny_bind (wpAny_alloc ?_)
  refine wpAny_bind (wpAny_layCells _ (fun name kind cells => by cases hkc : kind == NameKind.cell <;> simp [hkc]) _ _ _ _ ?_)
  rw [List.forIn_nil]
  refine wpAny_bind (wpAny_pure (wpAny_pure ?_))
  rw [show ({ s with heap := s.heap.push { cls := .type "dict", data := .dict #[] } } : Shared).heap.objs.size = s.heap.objs.size + 1 from Heap.size_push ..]
  have hc := S.cell1
  by_cases hx : scope.names.lookup x = some .cell
  · rw [if_pos hx] at hc
    obtain ⟨e1, e2⟩ := zc0 (x := x) scope.names (s.heap.objs.size + 1) cl (s.heap.push { cls := .type "dict", data := .dict #[] }) hc
    have h' := h (pushCells (s.heap.push { cls := .type "dict", data := .dict #[] }) scope.names) ((Heap.Ns.new s.heap (.type "dict")).keeps (pushCells_keeps _ _)) (fun b o e => pushCells_keeps _ _ b o (Heap.get?_push_of_some _ e)) (fun _ => by
      rw [e2]
      have : (s.heap.push { cls := .type "dict", data := .dict #[] }).objs.size = s.heap.objs.size + 1 := Heap.size_push ..
      rw [← this]
      exact ⟨_, Heap.get?_push_size _ rfl, rfl⟩)
    rw [e1]
    unfold zcK at h'
    rw [if_pos hx] at h'
    exact h'
  · rw [if_neg hx] at hc
    obtain ⟨e1, e2⟩ := zcL scope.names (s.heap.objs.size + 1) cl (s.heap.push { cls := .type "dict", data := .dict #[] }) hc
    have h' := h (pushCells (s.heap.push { cls := .type "dict", data := .dict #[] }) scope.names) ((Heap.Ns.new s.heap (.type "dict")).keeps (pushCells_keeps _ _)) (fun b o e => pushCells_keeps _ _ b o (Heap.get?_push_of_some _ e)) (fun z => absurd z hx)
    rw [e1]
    unfold zcK at h'
    rw [if_neg hx] at h'
    exact h'
theorem CompSc.cells (S : CompSc X scope x) (ok : X.Ok) : ∀ y ∈ scope.names, y.2 = .free → (X.env.cells.lookup y.1).isSome = true := fun y hy hk => by
  obtain ⟨c, hc⟩ := ok.has y.1 (S.free y hy hk)
  rw [hc]; rfl
theorem CompSc.look (S : CompSc X scope x) (ok : X.Ok) {y : Str} {c : Addr} (h : (zbt X scope x s₃ H₃ fp pins).env.cells.lookup y = some c) :
    (y = x ∧ scope.names.lookup x = some .cell ∧ c = s₃.heap.objs.size + 1) ∨ ((y ≠ x ∨ scope.names.lookup x ≠ some .cell) ∧ X.env.cells.lookup y = some c) := by
  have h : (zcK scope x (s₃.heap.objs.size + 1) (zhd X.env scope.names [])).lookup y = some c := h
  have old : (zhd X.env scope.names []).lookup y = some c → X.env.cells.lookup y = some c := fun h => by
    rcases zb5 (S.cells ok) h with q | q
    · cases q
    · exact q
  unfold zcK at h
  split at h
  · rename_i hc
    rw [List.lookup_cons] at h
    split at h
    · rename_i e
      cases h
      exact .inl ⟨by simpa using e, hc, rfl⟩
    · rename_i e
      exact .inr ⟨.inl (by simpa using e), old h⟩
  · rename_i hc
    exact .inr ⟨.inr hc, old h⟩
theorem CompSc.kindOf (S : CompSc X scope x) {y : Str} (h : (zbt X scope x s₃ H₃ fp pins).env.kindOf y = some .cell ∨ (zbt X scope x s₃ H₃ fp pins).env.kindOf y = some .free) : scope.names.lookup y = some .free ∨ (y = x ∧ scope.names.lookup x = some .cell) := by
  rcases h with h | h
  · rcases za9 (show _ = _ from h) with q | ⟨_, q⟩
    · exact .inr (S.onlyC q)
    · exact .inl q
  · rcases za9 (show _ = _ from h) with q | ⟨z, q⟩
    · exact .inl q
    · cases z
theorem CompSc.has (S : CompSc X scope x) {y : Str} (h : scope.names.lookup y = some .free) : ∃ c, (zbt X scope x s₃ H₃ fp pins).env.cells.lookup y = some c ∧ (zhd X.env scope.names []).lookup y = some c := by
  obtain ⟨c, hc⟩ := Option.isSome_iff_exists.mp (zfp (env := X.env) (names := scope.names) (acc := []) (y := y) (.inr (zcy h)))
  refine ⟨c, ?_, hc⟩
  show (zcK scope x (s₃.heap.objs.size + 1) (zhd X.env scope.names [])).lookup y = some c
  unfold zcK
  split
  · rename_i hx
    have : (y == x) = false := by
      cases e : y == x with
      | false => rfl
      | true => have e : y = x := by simpa using e
                subst e; rw [h] at hx; cases hx
    rw [List.lookup_cons, this]
    exact hc
  · exact hc
theorem zco {env : PySem.Env} {y : Str} : ∀ {names : List (Str × NameKind)}, names.lookup y = some .cell →
    (names.map fun (z : Str × NameKind) => match z with | (n, k) => if (k == NameKind.free && env.scope.kind == .function && env.kindOf n == some .cell) = true then (n, NameKind.cell) else (n, k)).lookup y = some .cell
  | [], h => by cases h
  | (n, j) :: r, h => by
    rw [List.lookup_cons] at h
    rw [List.map_cons, List.lookup_cons]
    by_cases hc : (j == NameKind.free && env.scope.kind == .function && env.kindOf n == some .cell) = true
    · simp only [hc, if_true]
      cases e : y == n with
      | true => rfl
      | false => rw [e] at h; exact zco h
    · simp only [hc, Bool.false_eq_true, if_false]
      cases e : y == n with
      | true => rw [e] at h; exact h
      | false => rw [e] at h; exact zco h
theorem CompSc.locX (S : CompSc X scope x) : Loc (zbt X scope x s₃ H₃ fp pins).env.scope x := by
  rcases S.loc with h | h
  · exact .inl (lookup_relabel_local h)
  · exact .inr (zco h)
theorem CompSc.fnX (S : CompSc X scope x) : (zbt X scope x s₃ H₃ fp pins).fn x = true ∨ (zbt X scope x s₃ H₃ fp pins).env.scope.names.lookup x = some .local := by
  rcases S.loc with h | h
  · exact .inr (lookup_relabel_local h)
  · left
    show (decide (x = x) && decide (scope.names.lookup x = some .cell)) = true
    simp [h]
theorem zj5 (S : CompSc X scope x) (I : Inv X pins σ H₃ s₃) (hf : ∀ b ∈ fp, zjh X pins H₃ b) (hlt : ∀ b ∈ fp, b < s₃.heap.objs.size) : (zbt X scope x s₃ H₃ fp pins).Ok where
  mod := I.ok.mod
  kind := S.kind
  glob := I.ok.glob
  blt := I.ok.blt
  above := Nat.le_refl _
  inj := fun y z c h1 h2 => by
    have old : ∀ {y : Str} {c : Addr}, X.env.cells.lookup y = some c → c < s₃.heap.objs.size := fun {y c} h => by
      obtain ⟨v, o, ho, _⟩ := I.cell y c h
      exact Heap.lt_size ho
    rcases S.look I.ok h1 with ⟨e1, _, e2⟩ | ⟨_, q1⟩
    · rcases S.look I.ok h2 with ⟨e3, _, e4⟩ | ⟨_, q2⟩
      · rw [e1, e3]
      · have := old q2; rw [e2] at this; exact absurd this (Nat.not_lt.mpr (Nat.le_succ _))
    · rcases S.look I.ok h2 with ⟨e3, _, e4⟩ | ⟨_, q2⟩
      · have := old q1; rw [e4] at this; exact absurd this (Nat.not_lt.mpr (Nat.le_succ _))
      · exact I.ok.inj y z c q1 q2
  has := fun y h => by
    rcases S.kindOf h with q | ⟨q1, q2⟩
    · obtain ⟨c, hc, _⟩ := S.has (s₃ := s₃) (H₃ := H₃) (fp := fp) (pins := pins) q
      exact ⟨c, hc⟩
    · refine ⟨s₃.heap.objs.size + 1, ?_⟩
      show (zcK scope x (s₃.heap.objs.size + 1) (zhd X.env scope.names [])).lookup y = _
      unfold zcK
      rw [if_pos q2, q1, List.lookup_cons, beq_self_eq_true]
  cab := fun y c h hc => by
    have h : (decide (y = x) && decide (scope.names.lookup x = some .cell)) = true := h
    rw [Bool.and_eq_true, decide_eq_true_iff, decide_eq_true_iff] at h
    rcases S.look I.ok hc with ⟨_, _, e⟩ | ⟨q, _⟩
    · rw [e]; exact Nat.le_succ _
    · exact absurd h (fun z => q.elim (fun w => w z.1) fun w => w z.2)
  hd := I.ok.hd
  frames := I.ok.frames
  stk := .inl rfl
  exf := fun b hb => ⟨Nat.ne_of_lt (hlt b hb), fun y c h => by
    rcases S.look I.ok h with ⟨_, _, e⟩ | ⟨_, q⟩
    · rw [e]; exact fun z => absurd (z ▸ hlt b hb) (Nat.not_lt.mpr (Nat.le_succ _))
    · exact (hf b hb).2.2.2.2.1 y c q⟩
  bs := I.bs
  bsz := Nat.le_trans I.ok.bsz I.sz
  noex := fun b o e hb => by
    obtain ⟨_, _, _, h, _⟩ := hf b hb
    rcases h with h | h
    · exact I.ok.noex b o e h
    · exact absurd (Nat.lt_of_lt_of_le (Heap.lt_size e) (Nat.le_trans I.ok.bsz h)) (Nat.lt_irrefl _)
  exfs := fun b hb hz => by
    obtain ⟨_, h1, h2, _⟩ := hf b hb
    rcases List.mem_cons.mp (I.stkSub b hz) with e | e
    · exact h1 e
    · exact h2 e
  funs := I.stack
  frf := I.stkFree
theorem zln {N : List Str} {i : Nat} {y : Str} (h : (zmH x N)[i]? = some y) : ∃ z, N[i]? = some z ∧ ((z = x ∧ y = "") ∨ (z ≠ x ∧ y = z)) := by
  unfold zmH at h
  rw [List.getElem?_map, jo2] at h
  obtain ⟨z, e1, e2⟩ := h
  refine ⟨z, e1, ?_⟩
  split at e2
  · exact .inl ⟨by assumption, e2.symm⟩
  · exact .inr ⟨by assumption, e2.symm⟩
theorem zlo {h₁ : Heap} {tk : Nat} (S : CompSc X scope x) (I : Inv X pins σ H₃ s₃) (hf : ∀ b ∈ fp, zjh X pins H₃ b) (hlt : ∀ b ∈ fp, b < s₃.heap.objs.size) (hns : h₁.Ns s₃.heap.objs.size fun _ => Option.none)
    (hk : ∀ b o, s₃.heap.get? b = some o → h₁.get? b = some o) (zjp : scope.names.lookup x = some .cell → h₁.IsCell (s₃.heap.objs.size + 1) Option.none) : Inv (zbt X scope x s₃ H₃ fp pins) [] (Option.none :: σ) H₃ { s₃ with heap := h₁, toks := tk } := by
  refine ⟨zj5 S I hf hlt, rfl, I.bare, Un.kept hk, ⟨_, hns, fun i y v h1 h2 h3 => ?_⟩, fun y c h => ?_, I.hok.fresh (Nat.le_refl _), fun y c h => ?_, fun p hp => ?_, I.hok.kept hk, ?_⟩
  · cases i with
    | zero => cases h2
    | succ i =>
      have h1 : (zmH x X.N)[i]? = some y := h1
      have h2 : σ[i]? = some (some v) := h2
      obtain ⟨z, e1, e2⟩ := zln h1
      have vis : scope.names.lookup y = some .local ∨ scope.names.lookup y = some .free := by
        rcases h3 with q | q
        · rcases za9 (show _ = _ from q) with q | ⟨z, q⟩
          · exact .inl q
          · cases z
        · rcases S.kindOf q with q | ⟨q, _⟩
          · exact .inr q
          · exfalso
            rcases e2 with ⟨_, z⟩ | ⟨ne, z⟩
            · have hx : x = "" := q.symm.trans z
              have hn := S.none
              rw [← hx] at hn
              rcases S.loc with w | w <;> rw [hn] at w <;> cases w
            · exact ne (z.symm.trans q)
      rcases e2 with ⟨rfl, rfl⟩ | ⟨ne, rfl⟩
      · rw [S.none] at vis
        rcases vis with q | q <;> cases q
      · rcases vis with q | q
        · exact absurd (S.own y (List.mem_of_getElem? e1) q) ne
        · have kx := S.free _ (zcy q) rfl
          obtain ⟨m, _, hl⟩ := I.loc
          obtain ⟨u, ru, l⟩ := hl i y v e1 h2 (.inr kx)
          refine ⟨u, ru, .inr ⟨?_, ?_⟩⟩
          · rcases h3 with q' | q'
            · rcases za9 (show _ = _ from q') with q' | ⟨z, _⟩
              · rw [q] at q'; cases q'
              · cases z
            · exact q'
          · rcases l with ⟨k, _⟩ | ⟨_, c, hc, hcell'⟩
            · have k : X.env.scope.names.lookup y = some .local := k
              rcases kx with z | z
              · have z : X.env.scope.names.lookup y = some .cell := z
                rw [z] at k; cases k
              · have z : X.env.scope.names.lookup y = some .free := z
                rw [z] at k; cases k
            · obtain ⟨c', hc', hc2⟩ := S.has (s₃ := s₃) (H₃ := H₃) (fp := fp) (pins := pins) q
              have e : X.env.cells.lookup y = some c' := by
                rcases zb5 (S.cells I.ok) hc2 with q | q
                · cases q
                · exact q
              rw [hc] at e
              cases e
              obtain ⟨o, ho, hd⟩ := hcell'
              exact ⟨c, hc', o, hk _ _ ho, hd⟩
  · rcases S.look I.ok h with ⟨_, q, e⟩ | ⟨_, q⟩
    · rw [e]; exact ⟨Option.none, zjp q⟩
    · obtain ⟨v, o, ho, hd⟩ := I.cell y c q
      exact ⟨v, o, hk _ _ ho, hd⟩
  · rcases S.look I.ok h with ⟨_, q, e⟩ | ⟨_, q⟩
    · rw [e]; exact I.hok.fresh (Nat.le_succ _)
    · exact I.freeC y c q
  · have hp : p ∈ X.pn ++ pins := by simpa [zbt] using hp
    obtain ⟨e, n, ne, nf, d⟩ := I.pin p hp
    refine ⟨hk _ _ e, n, Nat.ne_of_lt (Heap.lt_size e), fun z => ?_, d⟩
    rcases List.mem_cons.mp (I.stkSub _ z) with q | q
    · exact ne q
    · exact nf q
  · show σ.length + 1 = (x :: zmH x X.N).length
    unfold zmH
    rw [List.length_cons, List.length_map, I.len]
theorem zj6 {s' : Shared} {h' : Heap} {H' : Hp} {σ' : St} {ps : List (Addr × Obj)} (I : Inv X pins σ H₃ s₃) (hf : ∀ b ∈ fp, zjh X pins H₃ b) (J : Inv (zbt X scope x s₃ H₃ fp pins) ps σ' H' s') (hs : Heap.SameBut s₃.heap.objs.size s'.heap h') :
    Inv X pins σ H' { s' with heap := h' } := by
  have ne : ∀ b o, s₃.heap.get? b = some o → b ≠ s₃.heap.objs.size := fun b o e => Nat.ne_of_lt (Heap.lt_size e)
  have fr : H' s₃.heap.objs.size = Option.none := J.free
  have same : ∀ b, b ≠ s₃.heap.objs.size → h'.get? b = s'.heap.get? b := fun b hb => hs.2 b hb
  refine I.call' (s' := { s' with heap := h' }) (ch := fp) J.os ⟨fun b o e n hb hx => ?_, fun b o e n hb hx => ?_, fun b o e n hx => J.base.free b o e n hx, fun b o e hx => ?_, J.base.tups, J.base.frzs, J.base.tbls⟩ (fun b o e => ?_) J.bare fun b hb => ?_
  · exact (same b (ne b o e)).trans (J.base.keep b o e n hb hx)
  · obtain ⟨sl, q⟩ := J.base.slot b o e n hb hx
    exact ⟨sl, (same b (ne b o e)).trans q⟩
  · obtain ⟨o', q⟩ := J.base.there b o e hx
    exact ⟨o', (same b (ne b o e)).trans q⟩
  · refine (J.hok b o e).stay (fun c v hc q => (same c ?_).trans q) (fun _ q => q) fun _ _ q => q
    intro z
    rcases hc with w | w
    · rw [← w, z, fr] at e; cases e
    · rw [z, fr] at w; cases w
  · obtain ⟨_, h1, _, h3, h4, h5⟩ := hf b hb
    exact ⟨h3, h1, h4, h5⟩
end
theorem ziu {prog : Program} {w : World} {A : Around} {E : Result → Shared → Prop} {s : Shared} {elt target iter : Expr} {ifs : List Expr} {scope : Scope} {pos : Pos} {it acc : Value} {env : PySem.Env} (J : Nat → Shared → Prop)
    (turn : ∀ n s, J n s → wpAny (model prog w) A (pyNext it) (fun r s1 => match r with
      | Option.none => E (.ok .next) s1
      | some v => wpAny (model prog w) A (letOwnedTupleGo target it v) (fun _ s2 => wpAny (model prog w) A (assign target env v) (fun _ s3 =>
          wpAny (model prog w) A (forIn ifs true fun c r => if r = true then do let ok ← isTrue c env (eval c env); pure (ForInStep.yield ok) else pure (ForInStep.yield r)) (fun ok s4 =>
            if ok = true then wpAny (model prog w) A (eval elt env) (fun y s5 => wpAny (model prog w) A (call (.builtin "list.append") [acc, y]) (fun _ s6 => ∃ m, m < n ∧ J m s6) (fun _ _ => False) s5) (fun _ _ => False) s4
            else ∃ m, m < n ∧ J m s4) (fun _ _ => False) s3) (fun _ _ => False) s2) (fun _ _ => False) s1) (fun _ _ => False) s)
    (n : Nat) (h : J n s) : codeAny (model prog w) A (.compLoop (.ListComp elt [⟨target, iter, ifs, 0⟩] scope pos) 0 it acc env) E s := by
  refine codeAny_loop rfl J (fun n s hJ => ?_) n h
  show wpAny _ _ ((compTurn (.ListComp elt [⟨target, iter, ifs, 0⟩] scope pos) 0 it acc env).onRaise _) _ _ s
  refine wpAny_noted ?_
  rw [compTurn_list]
  have no : ∀ (e : Value) (s' : Shared), False → notedBy (model prog w) A env (fun e s' => E (.error e) s') e s' := fun _ _ z => z.elim
  refine wpAny_bind (wpAny_standAt (wpAny_bind (wpAny_mono (turn n s hJ) (fun r s1 h1 => ?_) no)))
  cases r with
  | none => exact wpAny_pure h1
  | some v =>
    refine wpAny_bind (wpAny_mono h1 (fun _ s2 h2 => ?_) no)
    refine wpAny_bind (wpAny_mono h2 (fun _ s3 h3 => wpAny_bind (wpAny_mono h3 (fun ok s4 h4 => ?_) no)) no)
    cases ok with
    | false => exact wpAny_pure ⟨rfl, h4⟩
    | true => exact wpAny_bind (wpAny_bind (wpAny_mono h4 (fun y s5 h5 => wpAny_bind (wpAny_mono h5 (fun _ s6 h6 => wpAny_pure (wpAny_pure ⟨rfl, h6⟩)) no)) no))
theorem R.cons {K : PySem.W.Frag} {W : Addr → Prop} {ρ : LW.Env} {σ : St} {H : Hp} {d : D} {v : V} (r : R K W ρ σ H) (h : Rep K W H d v) : R K W (some (.val d) :: ρ) (some v :: σ) H := by
  refine ⟨fun i e hi => ?_, fun i e hi => ?_, fun i x e hi hc => ?_, fun i j x y d e a h1 h2 c1 c2 h3 h4 => ?_, r.wf, by simpa using r.len⟩
  · cases i with
    | zero => cases hi; exact ⟨v, rfl, h⟩
    | succ i => exact r.val i e hi
  · cases i with
    | zero => cases hi
    | succ i => exact r.nol i e hi
  · cases i with
    | zero => cases hi; cases hc
    | succ i => exact r.own i x e hi hc
  · cases i with
    | zero => cases h1; cases c1
    | succ i =>
      cases j with
      | zero => cases h2; cases c2
      | succ j => rw [r.inj i j x y d e a h1 h2 c1 c2 h3 h4]
noncomputable def zj7 (X : Cx) (fn : Nat → List D → Option SV) (scope : Scope) (x : Str) (ifs : List Expr) (cond : E) : Prop :=
  (ifs = [] ∧ cond = .bl true) ∨ ∃ c, ifs = [c] ∧ ∀ s₃ H₃ fp pins, IT (zbt X scope x s₃ H₃ fp pins) fn c cond
section
variable {X : Cx} {fn : Nat → List D → Option SV}
theorem zlp {scope : Scope} {x : Str} {ifs : List Expr} {cond : E} {s₃ : Shared} {H₃ : Hp} {fp : List Addr} {pins ps : List (Addr × Obj)} {σ : St} {H : Hp} {s : Shared} {W : Addr → Prop} {ρ : LW.Env} {k : Bool} {Q : Bool → Hp → Prop}
    (hc : zj7 X fn scope x ifs cond) (I : Inv (zbt X scope x s₃ H₃ fp pins) ps σ H s) (hR : R X.K W ρ σ H) (he : evT fn cond ρ = some k) (q : ∀ H', Same H H' → Q k H') :
    wpAny (model X.prog X.w) X.A (forIn ifs true fun c r => if r = true then do let ok ← isTrue c (zbt X scope x s₃ H₃ fp pins).env (eval c (zbt X scope x s₃ H₃ fp pins).env); pure (ForInStep.yield ok) else pure (ForInStep.yield r))
      (TP (zbt X scope x s₃ H₃ fp pins) ps σ Q) (fun _ _ => False) s := by
  rcases hc with ⟨rfl, rfl⟩ | ⟨c, rfl, hc⟩
  · simp only [ztb] at he
    cases he
    exact wpAny_tests_nil ⟨H, I, q H (.refl H)⟩
  · exact wpAny_tests_one ((hc s₃ H₃ fp pins).h ps s σ H Q I ⟨W, ρ, k, hR, he, q⟩)
theorem zeg {test : D → Option Bool} {elt : D → Option SV} : ∀ {ds out : List D}, zcP test elt ds = some out → out.length ≤ ds.length
  | [], _, h => by simp only [zcP] at h; cases h; exact Nat.le_refl _
  | d :: r, out, h => by
    simp only [zcP, jo1] at h
    obtain ⟨b, e1, e2⟩ := h
    cases b with
    | true =>
      simp only [jo1, jo2] at e2
      obtain ⟨_, _, _, _, l, e3, rfl⟩ := e2
      have := zeg e3
      simp; omega
    | false => have := zeg e2; simp; omega
theorem znH {scope : Scope} {x : Str} {s₃ : Shared} {H₃ H' : Hp} {fp : List Addr} {pins : List (Addr × Obj)} {σ : St} (S : CompSc X scope x) (I : Inv X pins σ H₃ s₃) (hf : ∀ b ∈ fp, zjh X pins H₃ b) (hlt : ∀ b ∈ fp, b < s₃.heap.objs.size)
    (hn : ∀ b ∈ fp, H' b = Option.none) : ∀ b ∈ fp, zjh (zbt X scope x s₃ H₃ fp pins) [] H' b := fun b hb => by
  have ok := zj5 S I hf hlt
  refine ⟨hn b hb, (ok.exf b hb).1, ok.exfs b hb, .inl hb, (ok.exf b hb).2, fun p hp => ?_⟩
  have hp : p ∈ X.pn ++ pins := by simpa [zbt] using hp
  exact (hf b hb).2.2.2.2.2 p hp
structure CSt (X : Cx) (scope : Scope) (x : Str) (s₃ : Shared) (H₃ : Hp) (fp : List Addr) (pins : List (Addr × Obj)) (σ : St) (tn : Nat → Heap → Prop) (H2 : Hp) (W : Addr → Prop) (L : Addr) (test : D → Option Bool) (elt : D → Option SV) (ds out : List D)
    (n k : Nat) (y : Option V) (H' : Hp) (ys : List V) (out1 zdD : List D) (s' : Shared) : Prop where
  inv : Inv (zbt X scope x s₃ H₃ fp pins) [] (y :: σ) H' s'
  htn : tn k s'.heap
  hfp : ∀ b ∈ fp, H' b = Option.none
  hn : n = ds.length + 1 - k
  hk : k ≤ ds.length
  same : Same H2 H'
  lst : H' L = some (.lst ys)
  reps : Reps X.K (add W L) H' out1 ys
  hrest : zcP test elt (ds.drop k) = some zdD
  hout : out = out1 ++ zdD
theorem zj8 {iter elt : Expr} {x : Str} {px pos pos2 : Pos} {ifs : List Expr} {scope : Scope} {rng : Bool} {src : Es} {cond ce : E} {pins : List (Addr × Obj)} {s : Shared} {σ : St} {H : Hp} {W : Addr → Prop} {ρ : LW.Env} {rs : List SV} {ds out : List D} {use : Option (Value → Sem Unit)} {Qe : Value → Shared → Prop}
    (hcalm : X.calm = true) (S : CompSc X scope x) (hsrc : Src X fn (.Name x px) iter rng src)
    (hcond : zj7 X fn scope x ifs cond) (helt : ∀ s₃ H₃ fp pins, IE (zbt X scope x s₃ H₃ fp pins) fn elt ce) (hfo : ∀ y, foldedSetIterable iter X.env y = pure y) (I : Inv X pins σ H s) (hR : R X.K W ρ σ H)
    (e1 : zbV fn src ρ = some rs) (e2 : zaN rng rs = some ds) (hline : ds.length ≤ line) (e3 : zcP (fun d => evT fn cond (some (.val d) :: ρ)) (fun d => evE fn ce (some (.val d) :: ρ)) ds = some out)
    (fin : ∀ (s4 : Shared) (fl : Flow) (m : Str → Option Value) (C L : Addr) (H' : Hp), s4.heap.Ns C m → (∀ h', Heap.SameBut C s4.heap h' → Inv X pins σ H' { s4 with heap := h' }) → (X.s₀.heap.objs.size ≤ C ∧ C ≠ X.env.locals ∧ (∀ y c, X.env.cells.lookup y = some c → c ≠ C) ∧ (∀ p ∈ X.pn ++ pins, p.1 ≠ C) ∧ H' C = Option.none) → Same H H' →
      Res X.K W H H' (.obj true (.lst out)) (.ref L) → compPost (model X.prog X.w) X.A X.xe use Qe (.ref L) C (.ok fl) s4) :
    wpAny (model X.prog X.w) X.A (comprehension (.ListComp elt [⟨.Name x px, iter, ifs, 0⟩] scope pos) scope X.env pos2 (newList []) false (eval iter X.env) use) Qe X.xe s := by
  have hclos := zef (scope := scope) (env := X.env) (S.cells I.ok)
  refine wpAny_comprehension_free (use := use) rfl hfo hclos S.kind S.names ?_
  refine thn (hsrc.h pins s σ H (fun J H2 => Same H H2 ∧ Ys X.K J W H2 ds) I ⟨W, ρ, rs, ds, hR, e1, e2, fun J H' s1 y _ => ⟨s1, y⟩⟩) fun v s1 h1 => thn h1 fun itv s2 h2 => ?_
  obtain ⟨it, fp, tn, J, H2, rfl, I2, T, st2, f2, sm, hy⟩ := h2
  refine wpAny_newObj_type (zhr S fun h₁ hns₁ hk₁ hc₁ => ?_)
  have I3 := I2.lnew (t' := s2.toks) (ys := []) (its := []) .nil (Nat.zero_le _)
  have hD : H2 s2.heap.objs.size = Option.none := I2.fresh
  generalize hL : s2.heap.objs.size = L at hD
  generalize hs3 : ({ s2 with heap := s2.heap.push { cls := .type "list", data := .seq ([] : List Value).toArray }, toks := s2.toks } : Shared) = s₃ at I3
  have hs3h : s₃.heap = s2.heap.push { cls := .type "list", data := .seq ([] : List Value).toArray } := by rw [← hs3]
  rw [hL] at I3
  generalize hH3 : upd H2 L (.lst []) = H₃ at I3
  have blt : ∀ b ∈ fp, b < s2.heap.objs.size := fun b hb => by
    obtain ⟨o, e, _⟩ := T.obj _ _ st2 b hb
    exact Heap.lt_size e
  have hlt : ∀ b ∈ fp, b < s₃.heap.objs.size := fun b hb => by rw [hs3h, Heap.size_push]; exact Nat.lt_succ_of_lt (blt b hb)
  have hf : ∀ b ∈ fp, zjh X pins H₃ b := fun b hb => by
    refine ⟨?_, (f2 b hb).2⟩
    rw [← hH3, za4 (by rw [← hL]; exact Nat.ne_of_lt (blt b hb))]
    exact (f2 b hb).1
  have keep1 : ∀ b o, s₃.heap.get? b = some o → h₁.get? b = some o := fun b o e => by
    rw [hs3h] at e
    exact hk₁ b o e
  have ns1 : h₁.Ns s₃.heap.objs.size fun _ => Option.none := by rw [hs3h]; exact hns₁
  have Ic := zlo (tk := s2.toks) S I3 hf hlt ns1 keep1 (by rw [hs3h]; exact hc₁)
  have fpc := fun {H' : Hp} hn => znH (H' := H') S I3 hf hlt hn
  have win : ∀ b, add W L b → W b ∨ H2 b = Option.none := fun b w => by
    rcases w with w | rfl
    · exact .inl w
    · exact .inr hD
  have hRL : ∀ {H' : Hp} {ys : List V}, Same H2 H' → H' L = some (.lst ys) → R X.K (add W L) ρ σ H' := fun {H' ys} sm' e => (hR.same sm).add sm' hD e
  have lenO : out.length ≤ ds.length := zeg e3
  have loop : ∀ s' : Shared, s' = { s₃ with heap := h₁, toks := s2.toks } → codeAny (model X.prog X.w) X.A (.compLoop (.ListComp elt [⟨.Name x px, iter, ifs, 0⟩] scope pos) 0 (.ref it) (.ref L) (zbt X scope x s₃ H₃ fp pins).env)
      (compPost (model X.prog X.w) X.A X.xe use Qe (.ref L) s₃.heap.objs.size) s' := by
    rintro s' rfl
    refine ziu (fun n s' => ∃ k y H' ys out1 zdD, CSt X scope x s₃ H₃ fp pins σ tn H2 W L (fun d => evT fn cond (some (.val d) :: ρ)) (fun d => evE fn ce (some (.val d) :: ρ)) ds out n k y H' ys out1 zdD s') ?_ (ds.length + 1)
      ⟨0, Option.none, H₃, [], [], out, Ic, T.keep _ _ _ st2 (fun b hb o e => keep1 b o (by rw [hs3h]; exact Heap.get?_push_of_some _ e)), fun b hb => (hf b hb).1, rfl, Nat.zero_le _, by rw [← hH3]; exact za6 hD _, by rw [← hH3]; exact zbx, .nil, e3, rfl⟩
    rintro n s' ⟨k, y, H', ys, out1, zdD, c⟩
    obtain ⟨hstop, hgo⟩ := hy (add W L) H' c.same win k
    by_cases hk : k < ds.length
    · have hd : ds[k]? = some ds[k] := by simp [hk]
      obtain ⟨g1, g2⟩ := hgo _ hd
      have crest := c.hrest
      rw [zgl hd] at crest
      simp only [zcP, jo1] at crest
      obtain ⟨b, t1, t2⟩ := crest
      refine thn (T.item (zbt X scope x s₃ H₃ fp pins) rfl rfl rfl hcalm k [] s' (y :: σ) H' _ c.inv (fpc c.hfp) c.htn g1) fun r s4 ⟨u, hr, h4⟩ => ?_
      subst hr
      refine thn h4 fun _ s5 ⟨xv, H5, I5, r5, y5, st5, fr5⟩ => ?_
      obtain ⟨rfl, rv⟩ := g2 xv H5 y5
      have I5' := I5.pinned (fpc fr5) (T.obj _ _ st5)
      refine thn (zjs (X := zbt X scope x s₃ H₃ fp pins) (i := 0) S.nd rfl S.locX S.fnX _ s5 (y :: σ) H5 xv u (fun σ' H' => σ' = some xv :: σ ∧ H' = H5) I5' r5 ⟨rfl, rfl⟩) fun _ s6 ⟨σ6, H6, I6, q6, q7⟩ => ?_
      subst q6 q7
      have hRc := (hRL c.same c.lst).cons rv
      refine thn (zlp (Q := fun b' H7 => b' = b ∧ Same H6 H7) hcond I6 hRc t1 fun H7 s7 => ⟨rfl, s7⟩) fun ok s7 ⟨H7, I7, q7, m7⟩ => ?_
      subst q7
      have back : ∀ {s' : Shared} {H' : Hp}, Inv (zbt X scope x s₃ H₃ fp pins) ([] ++ zf7 fp s5.heap) (some xv :: σ) H' s' → tn (k + 1) s'.heap ∧ ∀ b ∈ fp, H' b = Option.none := fun {s' H'} J => by
        refine ⟨T.keep _ _ _ st5 fun b hb o e => (J.pin (b, o) (List.mem_append_right _ (List.mem_append_right _ (zcx hb e)))).1, fun b hb => ?_⟩
        obtain ⟨o, e, d⟩ := T.obj _ _ st5 b hb
        exact (J.pin (b, o) (List.mem_append_right _ (List.mem_append_right _ (zcx hb e)))).2.1
      cases ok with
      | false =>
        rw [if_neg Bool.false_ne_true]
        have bk := back I7
        exact ⟨_, by have := c.hn; omega, k + 1, some xv, H7, ys, out1, zdD, I7.unpinned, bk.1, bk.2, rfl, hk, c.same.trans m7, m7 _ _ c.lst, c.reps.ext (.same m7), t2, c.hout⟩
      | true =>
        rw [if_pos rfl]
        simp only [jo1, jo2] at t2
        obtain ⟨r8, t3, d8, t4, rest', t5, rfl⟩ := t2
        have hR7 := hRc.same m7
        refine thn ((helt s₃ H₃ fp pins).h _ s7 _ H7 (fun v H8 => Same H7 H8 ∧ Rep X.K (add W L) H8 d8 v) I7 ⟨add W L, _, r8, hR7, t3, fun v8 H8 m8 res => ⟨m8, (res.frz hR7.wf).toD t4⟩⟩) fun u8 s8 ⟨v8, H8, I8, rl8, m8, rp8⟩ => ?_
        have lst8 := m8 _ _ (m7 _ _ c.lst)
        have lenY := c.reps.length
        have zpD := congrArg List.length c.hout
        rw [List.length_append, List.length_cons] at zpD
        have le := zhl
        refine thn (zge (X := zbt X scope x s₃ H₃ fp pins) _ s8 _ H8 (.ref L) [v8] (.ref L) [u8] (fun _ H9 => H9 = upd H8 L (.lst (ys ++ [v8]))) I8 rfl (.cons rl8 .nil) ⟨L, ys, v8, rfl, rfl, lst8, by omega, rfl⟩) fun _ s9 ⟨_, H9, I9, _, q9⟩ => ?_
        subst q9
        have bk := back I9
        have ext : Ext (add W L) H8 (add W L) (upd H8 L (.lst (ys ++ [v8]))) := by
          refine ⟨fun b o q n => ?_, fun b zs q => ?_, fun b o u q => ?_, fun b w => .inl w⟩
          · rw [za4 (fun z => n (.inr z))]; exact q
          · rw [za4 (fun z => by rw [z, lst8] at q; cases q)]; exact q
          · rw [za4 (fun z => by rw [z, lst8] at q; cases q)]; exact q
        have smL : Same H2 (upd H8 L (.lst (ys ++ [v8]))) := fun b o q => by
          rw [za4 (fun z => by rw [z, hD] at q; cases q)]
          exact m8 _ _ (m7 _ _ (c.same _ _ q))
        exact ⟨_, by have := c.hn; omega, k + 1, some xv, _, ys ++ [v8], out1 ++ [d8], rest', I9.unpinned, bk.1, bk.2, rfl, hk, smL, zbx, ((c.reps.ext (.same (m7.trans m8))).ext ext).append (.cons (rp8.ext ext) .nil), t5, by rw [c.hout]; simp⟩
    · have ek : k = ds.length := by have := c.hk; omega
      refine thn (T.done (zbt X scope x s₃ H₃ fp pins) rfl rfl rfl hcalm k [] s' (y :: σ) H' _ c.inv (fpc c.hfp) c.htn (hstop ek)) fun r s4 ⟨hr, I4⟩ => ?_
      subst hr
      obtain ⟨m, hn, _⟩ := I4.loc
      have er := c.hrest
      rw [List.drop_of_length_le (by omega), zcP] at er
      cases er
      have eo := c.hout
      rw [List.append_nil] at eo
      refine fin s4 _ m _ L H' hn (fun h' hs => zj6 I3 hf I4 hs) ⟨I3.sz, (Nat.ne_of_lt I3.lt).symm, fun y cc hc => ?_, fun p hp => ?_, I4.free⟩ (sm.trans c.same) (by rw [eo]; exact .new (sm.free hD) c.lst (.lst c.reps))
      · obtain ⟨v, o, ho, _⟩ := I3.cell y cc hc
        exact Nat.ne_of_lt (Heap.lt_size ho)
      · exact Nat.ne_of_lt (Heap.lt_size (I3.pin p hp).1)
  have st0 : tn 0 h₁ := T.keep _ _ _ st2 (fun b hb o e => keep1 b o (by rw [hs3h]; exact Heap.get?_push_of_some _ e))
  subst hs3 hL
  exact codeAny_compStart_list (loop _ rfl) (T.self X.A 0 _ _ _ st0 (loop _ rfl))
theorem zj9 {iter elt : Expr} {x : Str} {px pos : Pos} {ifs : List Expr} {scope : Scope} {rng : Bool} {src : Es} {cond ce : E} (hcalm : X.calm = true) (S : CompSc X scope x) (hsrc : Src X fn (.Name x px) iter rng src)
    (hcond : zj7 X fn scope x ifs cond) (helt : ∀ s₃ H₃ fp pins, IE (zbt X scope x s₃ H₃ fp pins) fn elt ce) (hfo : ∀ y, foldedSetIterable iter X.env y = pure y := by intro _; rfl) :
    IE X fn (.ListComp elt [⟨.Name x px, iter, ifs, 0⟩] scope pos) (.comp rng src cond ce) := by
  refine .mk ?_
  rintro pins s σ H Q I ⟨W, ρ, r, hR, he, q⟩
  simp only [znk, jo1] at he
  obtain ⟨rs, e1, ds, e2, e3⟩ := he
  split at e3
  case isFalse => cases e3
  rename_i hline
  rw [jo2] at e3
  obtain ⟨out, e3, rfl⟩ := e3
  rw [eval_ListComp]
  refine zj8 (use := Option.none) hcalm S hsrc hcond helt hfo I hR e1 e2 hline e3 fun s4 fl m C L H' hn back _ sm res => ?_
  exact ⟨m, hn, fun h' hs => ⟨.ref L, H', back h' hs, rfl, q _ H' sm res⟩⟩
end
end L2.LW
set_option maxHeartbeats 4000000
namespace L2.LW
open PySem PySem.Spec PyProof.Rows
noncomputable def tyN : Ty → String
  | .bool => "bool" | .int => "int" | .str => "str" | .list => "list" | .tuple => "tuple"
noncomputable def dTy : D → String
  | .int _ => "int" | .bl _ => "bool" | .non => "NoneType" | .str _ => "str" | .tup _ => "tuple" | .lst _ => "list" | .dct _ _ _ => "dict"
theorem zpE (K : PySem.W.Frag) (d : D) (t : Ty) : PySem.W.kitOne K (.type (dTy d)) (.type (tyN t)) = some (zcd t d) := by
  cases d <;> cases t <;> rfl
section
variable {X : Cx} {fn : Nat → List D → Option SV}
theorem zlq {pins : List (Addr × Obj)} {σ : St} {H : Hp} {s : Shared} {W : Addr → Prop} {A : Around} {E Q : Value → Shared → Prop} {d : D} {x : V} {u : Value} {t : Ty} (I : Inv X pins σ H s) (h : Sees X.K W H d x) (r : RelV x u)
    (q : ∀ tk, Q (.bool (zcd t d)) { s with toks := tk }) : wpAny (model X.prog X.w) A (call (.builtin "isinstance") [u, .type (tyN t)]) Q E s := by
  have e := zpE X.K d t
  cases d with
  | int i => cases h.int; obtain ⟨tk, rfl⟩ := r; exact PySem.W.kia_one PySem.W.kitx_int I.kIn True.intro e (fun z => nomatch z) q
  | bl b => cases h.bl; cases r; exact PySem.W.kia_one PySem.W.kitx_bool I.kIn True.intro e (fun z => nomatch z) q
  | non => cases h.non; cases r; exact PySem.W.kia_one PySem.W.kitx_none I.kIn True.intro e (fun z => nomatch z) q
  | str y => cases h.str; obtain ⟨tk, rfl⟩ := r; exact PySem.W.kia_one PySem.W.kitx_str I.kIn True.intro e (fun z => nomatch z) q
  | tup l =>
    obtain ⟨a, xs, rfl, hq, _⟩ := h.tup
    cases r
    obtain ⟨its, rv, ⟨o, ho, hc, n, hd⟩, hz⟩ := I.tuple hq
    exact PySem.W.kia_one PySem.W.kitx_tuple I.kIn ⟨o, ho, hc⟩ e (fun z => nomatch z) q
  | lst l =>
    obtain ⟨a, xs, rfl, hq, _⟩ := h.lst
    cases r
    obtain ⟨its, rv, ⟨o, n, ho, hc, _, hd⟩, hz⟩ := I.list hq
    exact PySem.W.kia_one PySem.W.kitx_list I.kIn ⟨o, ho, hc⟩ e (fun z => nomatch z) q
  | dct b ks vs =>
    cases b with
    | false =>
      obtain ⟨a, ns, ys, rfl, _, hH, _⟩ := h.dK
      cases r
      obtain ⟨_, _, vs, _, ob, _, _, h1, h2, _⟩ := zk3 I.hok (.inl hH)
      exact PySem.W.kia_one PySem.W.kitx_dict I.kIn ⟨ob, h1, h2.1⟩ e (fun z => nomatch z) q
    | true =>
      obtain ⟨a, ns, ys, rfl, _, hH, _⟩ := h.dT
      cases r
      obtain ⟨_, _, xs, _, ob, _, _, h1, h2, _⟩ := zk4 I.hok (.inl hH)
      exact PySem.W.kia_one PySem.W.kitx_dict I.kIn ⟨ob, h1, h2.1⟩ e (fun z => nomatch z) q
theorem znI (t : Ty) : CallR X (.builtin "isinstance") (fun xs H Q => ∃ x, xs = [x, .ty (tyN t)] ∧ VR X.K (zao (.inst t)) [x] H Q) := by
  rintro pins s σ H xs us Q I rv ⟨x, rfl, W, ds, r, wf, hs, hf, q⟩
  obtain ⟨d, rfl, h1⟩ := pr1 hs
  replace hf : zpd t [d] = some r := hf
  cases hf
  obtain ⟨u, w', rfl, r1, r2⟩ := zsK rv
  cases r2
  exact zlq I h1 r1 fun tk => ⟨.bl _, H, I.tok tk, rfl, q _ H (.refl H) (.val (.bl _))⟩
theorem zh0 {a : Expr} {ca : E} {t : Ty} {y : Str} {p p2 pos : Pos} (hg : Gl X "isinstance") (hm : X.mg "isinstance" = Option.none) (hg2 : Gl X y) (hm2 : X.mg y = Option.none) (hv : bootBuiltins y = some (.type (tyN t))) (ha : IE X fn a ca)
    (hn : y ≠ "__name__" := by decide) (hdb : (y == ("__debug__" : Str)) = false := by decide)
    (h1 : starEach [a, .Name y p2] X.env = (false, eval a X.env) :: starEach [.Name y p2] X.env := by rfl) (h2 : starEach [.Name y p2] X.env = (false, eval (.Name y p2) X.env) :: starEach [] X.env := by rfl)
    (hpl : (backTo pos (starEach [.Name y p2] X.env)).any (·.1) = false := by rfl) :
    IE X fn (.Call (.Name "isinstance" p) [a, .Name y p2] [] pos) (.prim (.inst t) (.cons ca .nil)) :=
  .mk <| (zfa (znI t) hg hm PyProof.Rows.boot_isinstance (zcg ha.v (zcg (zjq hg2 hm2 hv (v := .ty (tyN t)) rfl hn hdb) zf8 h2) h1) (by decide) (by decide) h1 hpl).imp fun σ H Q zz3 => by
    obtain ⟨W, ρ, r, hR, he, q⟩ := zz3
    simp only [zci, zb2, zbB, jo1, jo2] at he
    obtain ⟨rs, ⟨r1, e1, rs', e3, rfl⟩, e4⟩ := he
    cases e3
    exact ⟨W, ρ, r1, hR, e1, fun v1 H1 s1 f1 => ⟨v1, rfl, zfh hR s1 (.cons f1 .nil) e4 q⟩⟩
theorem zeT {K : PySem.W.Frag} {W : Addr → Prop} {H : Hp} : ∀ {ds : List D} {xs : List V} {bs : List Bool}, Reps K W H ds xs → bools? ds = some bs → xs = bs.map V.bl
  | _, _, bs, .nil, e => by simp [bools?] at e; subst e; rfl
  | _, _, bs, .cons h t, e => by
    cases h with
    | bl i =>
      simp only [bools?, jo2] at e
      obtain ⟨ms, e1, rfl⟩ := e
      rw [zeT t e1]; rfl
    | _ => simp [bools?] at e
theorem zeU : ∀ {bs : List Bool} {us : List Value}, Vals (bs.map V.bl) us → us = bs.map Value.bool
  | [], us, r => by cases r; rfl
  | b :: bs, us, r => by
    cases r with
    | cons h t => cases h; rw [zeU t]; rfl
theorem zka (bs : List Bool) : ((List.range bs.length).all fun i => bs.getD i true) = bs.all id := by
  induction bs with
  | nil => rfl
  | cons b r ih =>
    rw [List.length_cons, List.range_succ_eq_map, List.all_cons, List.all_map, List.all_cons]
    simp only [Function.comp_def, List.getD_cons_succ, List.getD_cons_zero]
    rw [ih]; rfl
theorem zmI (hc : X.calm = true) : CallR X (.builtin "all") (VR X.K (zao .all)) := by
  rintro pins s σ H xs us Q I rv ⟨W, ds, r, wf, hs, hf, q⟩
  replace hf : zq8 ds = some r := hf
  unfold zq8 at hf
  split at hf
  · rename_i l
    rw [jo1] at hf
    obtain ⟨bs, e1, hf⟩ := hf
    cases hf
    cases hs with
    | cons h1 t =>
      cases t
      obtain ⟨p, ys, rfl, hp, rp⟩ := h1.lst
      have ey := zeT rp e1
      subst ey
      obtain ⟨u, rfl, ru⟩ := zkZ rv
      cases ru
      obtain ⟨its, rv', pl, hz⟩ := I.list hp
      have ei := zeU rv'
      subst ei
      obtain ⟨o, n, ho, hcl, hdi, hda⟩ := id pl
      have hne : p ≠ s.heap.objs.size := Nat.ne_of_lt (Heap.lt_size ho)
      refine call_all_walk (wpAny_pyIter_list pl.isList ?_)
      refine ⟨s.heap.objs.size, _, _, _, _, _, fun i => bs.getD i true, rfl, Walks.list (A := X.A.in1) (I.ok.hd hc) s.heap.objs.size p hne (bs.map Value.bool).toArray, ⟨⟨_, Heap.get?_push_size _ rfl, rfl, rfl⟩, ⟨o, Heap.get?_push_of_some _ ho, hcl, n, hda⟩⟩, ?_, fun h' tk hk => ?_⟩
      · intro i v s' Q' E' hv hQ
        have hv : (bs.map Value.bool).toArray[i]? = some v := hv
        rw [List.getElem?_toArray, List.getElem?_map, jo2] at hv
        obtain ⟨b, e2, rfl⟩ := hv
        have e3 : bs.getD i true = b := by rw [List.getD_eq_getElem?_getD, e2]; rfl
        have hQ : Q' (bs.getD i true) s' := hQ
        rw [e3] at hQ
        exact wpAny_truthy_bool hQ
      · rw [List.size_toArray, List.length_map, zka]
        refine ⟨.bl _, H, I.kept (t' := tk) (fun b o' e => ?_), rfl, q _ H (.refl H) (.val (.bl _))⟩
        exact hk b o' (by simpa using Nat.ne_of_lt (Heap.lt_size e)) (Heap.get?_push_of_some _ e)
  · cases hf
theorem zlr (xs : List V) (k : Int) (hk : 0 ≤ k) : zok xs Option.none (some k) = xs.take k.toNat := by
  obtain ⟨n, rfl⟩ := Int.eq_ofNat_of_zero_le hk
  unfold zok
  rw [HT.sIx_none, HT.sIx_nat, List.drop_zero, Nat.sub_zero, Int.toNat_natCast]
  rcases Nat.le_total n xs.length with h | h
  · rw [Nat.min_eq_left h]
  · rw [Nat.min_eq_right h, List.take_of_length_le (Nat.le_refl _), List.take_of_length_le h]
theorem znJ {a b : Expr} {ca cb : E} {p pos : Pos} (ha : IE X fn a ca) (hb : IE X fn b cb) : IE X fn (.Subscript a (.Slice Option.none (some b) Option.none p) pos) (.prim .cutTo (.cons ca (.cons cb .nil))) :=
  .mk <| (zk2 zna ha.v zm5 (zm6 hb.v)).imp fun σ H Q zz3 => by
    obtain ⟨W, ρ, r, hR, he, q⟩ := zz3
    simp only [zci, zb2, zbB, jo1, jo2] at he
    obtain ⟨rs, ⟨r1, e1, rs', ⟨r2, e2, rs'', e3, rfl⟩, rfl⟩, e4⟩ := he
    cases e3
    refine ⟨W, ρ, r1, hR, e1, fun v1 H1 s1 f1 => ⟨W, ρ, r2, hR.same s1, e2, fun v2 H2 s2 f2 => ?_⟩⟩
    replace e4 : zhP [zby r1, zby r2] = some r := e4
    unfold zhP at e4
    split at e4
    · rename_i l k z
      have h1 := (f1.same s2).sees
      have h2 := f2.sees
      injection z with z1 z2
      injection z2 with z2 _
      rw [z1] at h1
      rw [z2] at h2
      split at e4
      · rename_i hk
        cases e4
        obtain ⟨p, xs, rfl, hp, rp⟩ := h1.lst
        cases h2.int
        refine ⟨k, rfl, p, xs, rfl, hp, fun p' hp' => ?_⟩
        rw [zlr xs k hk]
        have s12 := s1.trans s2
        exact q _ _ (s12.trans (za6 hp' _)) ((zec hp' (rp.take _)).back s12)
      · cases e4
    · cases e4
theorem zfq {scope : Scope} {env : PySem.Env} {y : Str} (h : scope.names.lookup y = some .free) : Vis (relabel scope env) y := by
  unfold Vis relabel
  have key : ∀ (names : List (Str × NameKind)), names.lookup y = some .free →
      (names.map fun (z : Str × NameKind) => match z with | (n, k) => if (k == NameKind.free && env.scope.kind == .function && env.kindOf n == some .cell) = true then (n, NameKind.cell) else (n, k)).lookup y = some .cell ∨
      (names.map fun (z : Str × NameKind) => match z with | (n, k) => if (k == NameKind.free && env.scope.kind == .function && env.kindOf n == some .cell) = true then (n, NameKind.cell) else (n, k)).lookup y = some .free := by
    intro names
    induction names with
    | nil => intro h; cases h
    | cons z r ih =>
      obtain ⟨n, j⟩ := z
      intro h
      rw [List.lookup_cons] at h
      rw [List.map_cons, List.lookup_cons]
      by_cases hc : (j == NameKind.free && env.scope.kind == .function && env.kindOf n == some .cell) = true
      · simp only [hc, if_true]
        cases e : y == n with
        | true => exact .inl rfl
        | false => rw [e] at h; exact ih h
      · simp only [hc, Bool.false_eq_true, if_false]
        cases e : y == n with
        | true => rw [e] at h; exact .inr h
        | false => rw [e] at h; exact ih h
  exact .inr (key scope.names h)
theorem zeh {scope : Scope} {env : PySem.Env} {y : Str} (h : scope.names.lookup y = some .local) : Vis (relabel scope env) y := .inl (lookup_relabel_local h)
theorem zkb {scope : Scope} {env : PySem.Env} {y : Str} (h : scope.names.lookup y = some .globalImplicit) : (relabel scope env).names.lookup y = some .globalImplicit := by
  unfold relabel
  have key : ∀ (names : List (Str × NameKind)), names.lookup y = some .globalImplicit →
      (names.map fun (z : Str × NameKind) => match z with | (n, k) => if (k == NameKind.free && env.scope.kind == .function && env.kindOf n == some .cell) = true then (n, NameKind.cell) else (n, k)).lookup y = some .globalImplicit := by
    intro names
    induction names with
    | nil => intro h; cases h
    | cons z r ih =>
      obtain ⟨n, j⟩ := z
      intro h
      rw [List.lookup_cons] at h
      rw [List.map_cons, List.lookup_cons]
      by_cases hc : (j == NameKind.free && env.scope.kind == .function && env.kindOf n == some .cell) = true
      · simp only [hc, if_true]
        cases e : y == n with
        | true =>
          rw [e] at h
          have h : j = .globalImplicit := Option.some.inj h
          rw [h] at hc
          simp at hc
        | false => rw [e] at h; exact ih h
      · simp only [hc, Bool.false_eq_true, if_false]
        cases e : y == n with
        | true => rw [e] at h; exact h
        | false => rw [e] at h; exact ih h
  exact key scope.names h
noncomputable def zkc (sc : Scope) (N : List Str) (scope : Scope) (x : Str) : Bool :=
  decide (scope.kind = .function) && (decide (scope.names.lookup x = some .local) || decide (scope.names.lookup x = some .cell)) && scope.names.all (fun y => !decide (y.2 = .local) || decide (scope.names.lookup y.1 = some .local)) &&
  decide (scope.names.filter (fun y => y.2 == .cell) = if scope.names.lookup x = some .cell then [(x, .cell)] else []) &&
  scope.names.all (fun y => !decide (y.2 = .free) || (decide (sc.names.lookup y.1 = some .cell) || decide (sc.names.lookup y.1 = some .free))) && N.all (fun y => !decide (scope.names.lookup y = some .local) || decide (y = x)) &&
  decide (scope.names.lookup ("" : Str) = Option.none) && decide ((x :: zmH x N).Nodup)
theorem zkd {scope sc : Scope} {N : List Str} {x : Str} (hs : X.env.scope = sc) (hN : X.N = N) (h : zkc sc N scope x = true) : CompSc X scope x := by
  subst hs hN
  simp only [zkc, Bool.and_eq_true, decide_eq_true_eq, List.all_eq_true, Bool.or_eq_true, Bool.not_eq_true', decide_eq_false_iff_not] at h
  obtain ⟨⟨⟨⟨⟨⟨⟨h1, h2⟩, h3⟩, h4⟩, h5⟩, h6⟩, h7⟩, h8⟩ := h
  exact ⟨h1, h2, fun y hy e => (h3 y hy).resolve_left fun z => z e, h4, fun y hy e => (h5 y hy).resolve_left fun z => z e, fun y hy e => (h6 y hy).resolve_left fun z => z e, h7, h8⟩
end
end L2.LW
set_option maxHeartbeats 4000000
namespace L2.LW
open PySem PySem.Spec PyProof.Rows
section
variable {Pg : Program} {w : World} {K : PySem.W.Frag} {mg : Str → Option Value} {base : Heap} {f : Addr} {fd : FuncData} {ps : List Str} {P : Nat → Option Fn} {fuel i n k : Nat}
theorem zh1 {io : List Nat} (h : ∀ ds, zah P fuel n i ds = Option.none) : FnOk Pg w K mg base CX0 k f fd ps (spA K (zah P fuel n) i io) := by
  have no : ∀ vs H Q E, ¬ spA K (zah P fuel n) i io vs H Q E := fun vs H Q E zz4 => by
    obtain ⟨W, ds, r, outs, _, _, e, _⟩ := zz4
    rw [h ds] at e; cases e
  exact ⟨fun vs H Q E z => absurd z (no vs H Q E), fun A outer s H args us vs Q E _ _ _ _ z => absurd z (no vs H Q E)⟩
theorem znK {io : List Nat} : FnOk Pg w K mg base CX0 k f fd ps (spA K (zah P fuel 0) i io) := zh1 fun _ => rfl
theorem zaf {io : List Nat} (h : P i = Option.none) : FnOk Pg w K mg base CX0 k f fd ps (spA K (zah P fuel (n + 1)) i io) := zh1 fun ds => by rw [zah, h]; rfl
theorem zpF {H : Hp} {a : Addr} {ns : List Int} {E : XK} (h : zbl P fuel n i [.lst (ns.map D.int)] = some (.val (.bl true))) (hS : SqL K H a (ns.map V.int)) : spA K (zah P fuel n) i [] [.ref a] H (fun v _ => v = .bl true) E := by
  refine ⟨fun _ => False, [.lst (ns.map D.int)], .val (.bl true), [], fun _ z => z.elim, (Reps.cons (.lst ?_ (.ints ns)) .nil).get', zhW h, fun v H' _ _ r => ?_⟩
  · rcases hS with hS | hS
    · exact .inl ⟨fun z => z, hS⟩
    · exact .inr hS
  · cases r with
    | val r => cases r; rfl
end
end L2.LW
set_option maxHeartbeats 4000000
set_option maxHeartbeats 4000000
namespace L2.LW
open PySem PySem.Spec PyProof.Rows
inductive ArgOk (K : PySem.W.Frag) (ρ : LW.Env) (σ : St) (H H' : Hp) : AV → V → Prop where
  | e {d : D} {v : V} (h : ∀ W, Rep K W H' d v) : ArgOk K ρ σ H H' (.e d) v
  | l {ds : List D} {a : Addr} {xs : List V} (e : SqL K H' a xs ∧ Rd H' a (.lst xs) ∨ ztc K a xs) (r : ∀ W, Reps K W H' ds xs) : ArgOk K ρ σ H H' (.l ds) (.ref a)
  | s {i : Nat} {x : SV} {d : D} {a : Addr} (h : ρ[i]? = some (some x)) (c : x.cell = some d) (k : zis d = true) (e : σ[i]? = some (some (.ref a))) : ArgOk K ρ σ H H' (.s i d) (.ref a)
  | n {t : Bool} {a : Addr} {o : HO} (h : H a = Option.none) (e : H' a = some o) (r : ∀ W, ORep K W H' (.dct t [] []) o) : ArgOk K ρ σ H H' (.n t) (.ref a)
theorem ArgOk.same {K : PySem.W.Frag} {ρ : LW.Env} {σ : St} {H H' H'' : Hp} {x : AV} {v : V} (h : ArgOk K ρ σ H H' x v) (s : Same H' H'') : ArgOk K ρ σ H H'' x v := by
  cases h with
  | e h => exact .e fun W => (h W).ext (.same s)
  | l e r =>
    refine .l ?_ fun W => (r W).ext (.same s)
    rcases e with ⟨e1, e2⟩ | e
    · refine .inl ⟨s.seq e1, ?_⟩
      rcases e2 with e2 | ⟨o, e2⟩
      · exact .inl (s _ _ e2)
      · exact .inr ⟨o, s _ _ e2⟩
    · exact .inr e
  | s h c k e => exact .s h c k e
  | n h e r => exact .n h (s _ _ e) fun W => (r W).ext (.same s)
theorem ArgOk.back {K : PySem.W.Frag} {ρ : LW.Env} {σ : St} {H H' H'' : Hp} {x : AV} {v : V} (h : ArgOk K ρ σ H' H'' x v) (s : Same H H') : ArgOk K ρ σ H H'' x v := by
  cases h with
  | e h => exact .e h
  | l e r => exact .l e r
  | s h c k e => exact .s h c k e
  | n h e r => exact .n (s.free h) e r
inductive OutsX (K : PySem.W.Frag) (W : Addr → Prop) (H : Hp) : List AV → List V → List D → Prop where
  | nil : OutsX K W H [] [] []
  | e {d : D} {v : V} {xs : List AV} {vs : List V} {os : List D} (t : OutsX K W H xs vs os) : OutsX K W H (.e d :: xs) (v :: vs) os
  | l {d : List D} {v : V} {xs : List AV} {vs : List V} {os : List D} (t : OutsX K W H xs vs os) : OutsX K W H (.l d :: xs) (v :: vs) os
  | s {i : Nat} {d : D} {a : Addr} {o : HO} {d' : D} {xs : List AV} {vs : List V} {os : List D} (e : H a = some o) (r : ORep K W H d' o) (t : OutsX K W H xs vs os) : OutsX K W H (.s i d :: xs) (.ref a :: vs) (d' :: os)
  | n {b : Bool} {v : V} {d' : D} {xs : List AV} {vs : List V} {os : List D} (t : OutsX K W H xs vs os) : OutsX K W H (.n b :: xs) (v :: vs) (d' :: os)
section
variable {X : Cx} {fn : Nat → List D → Option SV} {fa : Nat → List D → Option Ans} {fuel : Nat} {a b c e : Expr} {ca cb cc ce : E} {es : List Expr} {cs : Es} {ma : MA} {m : M} {pos p : Pos} {x : Str} {st : Stmt} {sts sts' : List Stmt} {s : S} {ss s1 s2 : Ss}
theorem OutsX.plain {K : PySem.W.Frag} {W W' : Addr → Prop} {H : Hp} {xs : List AV} {vs : List V} {os : List D} (h : OutsX K W H xs vs os) (p : os.all zbU = true) : OutsX K W' H xs vs os := by
  induction h with
  | nil => exact .nil
  | e _ ih => exact .e (ih p)
  | l _ ih => exact .l (ih p)
  | s e r _ ih =>
    simp only [List.all_cons, Bool.and_eq_true] at p
    exact .s e (r.plain p.1) (ih p.2)
  | n _ ih =>
    simp only [List.all_cons, Bool.and_eq_true] at p
    exact .n (ih p.2)
theorem Res.fine {K : PySem.W.Frag} {W W' : Addr → Prop} {H H' : Hp} {r : SV} {v : V} (h : Res K W' H H' r v) (p : r.fine = true) : Res K W H H' r v := by
  cases h with
  | val h => exact .val (h.plain p)
  | new h e r => exact .new h e (r.plain p)
  | see h e r => cases p
theorem SPost.wf' {K : PySem.W.Frag} {W W' : Addr → Prop} {ρ ρ' : LW.Env} {σ σ' : St} {H H' : Hp} (p : SPost K W ρ σ H W' ρ' σ' H') : Wf W' H' := p.r.wf
end
end L2.LW
set_option maxHeartbeats 4000000
set_option maxHeartbeats 4000000
namespace L2.LW
open PySem PySem.W PyProof.Rows
section
variable {n : Nat} {r : Nat → Int} {cmp : Nat → Nat → (Bool → Shared → Prop) → Shared → Prop} {I : Shared → Prop}
noncomputable def kk (r : Nat → Int) (p : Array Nat) (i : Nat) : Int := r (p.getD i 0)
structure Pm (n : Nat) (r : Nat → Int) (p : Array Nat) : Prop where
  perm : p.Perm (List.range n).toArray
  size : p.size = n
  lt : ∀ i, i < n → p.getD i 0 < n
  inj : ∀ i j, i < n → j < n → i ≠ j → kk r p i ≠ kk r p j
theorem Pm.of {p : Array Nat} (hr : ∀ i j, i < n → j < n → i ≠ j → r i ≠ r j) (h : p.Perm (List.range n).toArray) : Pm n r p := by
  have hs : p.size = n := by have := h.size_eq; simpa using this
  have hl : p.toList.Perm (List.range n) := Array.perm_iff_toList_perm.mp h
  have hlt : ∀ i, i < n → p.getD i 0 < n := fun i hi => by
    have hi' : i < p.size := by omega
    have : p[i] ∈ p.toList := by simp
    have := hl.mem_iff.mp this
    rw [List.mem_range] at this
    simpa [Array.getD, hi'] using this
  have hnd : p.toList.Nodup := hl.nodup_iff.mpr List.nodup_range
  refine ⟨h, hs, hlt, fun i j hi hj ne => hr _ _ (hlt i hi) (hlt j hj) fun e => ne ?_⟩
  have hi' : i < p.size := by omega
  have hj' : j < p.size := by omega
  simp only [Array.getD, hi', hj', dif_pos] at e
  have e' : p.toList[i]'(by simpa using hi') = p.toList[j]'(by simpa using hj') := by simpa using e
  exact (List.getElem_inj hnd).mp e'
noncomputable def Up (r : Nat → Int) (p : Array Nat) (k : Nat) : Prop := ∀ i j, i < j → j < k → kk r p i < kk r p j
noncomputable def Dn (r : Nat → Int) (p : Array Nat) (k : Nat) : Prop := ∀ i j, i < j → j < k → kk r p j < kk r p i
theorem Up.one {p : Array Nat} {k : Nat} (h : k ≤ 1) : Up r p k := fun i j h1 h2 => by omega
theorem Dn.one {p : Array Nat} {k : Nat} (h : k ≤ 1) : Dn r p k := fun i j h1 h2 => by omega
theorem Up.next {p : Array Nat} {k : Nat} (h : Up r p k) (hk : 1 ≤ k) (e : kk r p (k - 1) < kk r p k) : Up r p (k + 1) := fun i j h1 h2 => by
  by_cases hj : j = k
  · subst hj
    by_cases hi : i = j - 1
    · rw [hi]; exact e
    · exact Int.lt_trans (h i (j - 1) (by omega) (by omega)) e
  · exact h i j h1 (by omega)
theorem Dn.next {p : Array Nat} {k : Nat} (h : Dn r p k) (hk : 1 ≤ k) (e : kk r p k < kk r p (k - 1)) : Dn r p (k + 1) := fun i j h1 h2 => by
  by_cases hj : j = k
  · subst hj
    by_cases hi : i = j - 1
    · rw [hi]; exact e
    · exact Int.lt_trans e (h i (j - 1) (by omega) (by omega))
  · exact h i j h1 (by omega)
variable (hc : ∀ i j C s, i < n → j < n → I s → (∀ s', I s' → C (decide (r i < r j)) s') → cmp i j C s)
include hc
omit hc in
omit hc in
omit hc in
omit hc in
end
end L2.LW
set_option maxHeartbeats 4000000
set_option maxHeartbeats 4000000
set_option maxHeartbeats 4000000
namespace L2.LW
open PySem PySem.Spec PySem.W PySem.Calls PyProof.Rows
noncomputable def RawD (h : Heap) (d : Addr) (tb : Array DictEntry) (ep : Nat) : Prop := ∃ o, h.get? d = some o ∧ o.ExactDict ∧ o.data = .dict tb ep
theorem RawD.at {h h2 : Heap} {d : Addr} {tb : Array DictEntry} {ep : Nat} (x : RawD h d tb ep) (e : ∀ o, h.get? d = some o → h2.get? d = some o) : RawD h2 d tb ep := let ⟨o, ho, r⟩ := x; ⟨o, e _ ho, r⟩
theorem RawD.lt {h : Heap} {d : Addr} {tb : Array DictEntry} {ep : Nat} (x : RawD h d tb ep) : d < h.objs.size := let ⟨_, ho, _⟩ := x; Heap.lt_size ho
end L2.LW
set_option maxHeartbeats 4000000
set_option maxHeartbeats 4000000
set_option maxHeartbeats 4000000
namespace L2.LW
open PySem PySem.Spec PySem.W PySem.Calls PyProof.Rows
noncomputable def zjp (i : Nat) : Int := reduceHash (Builtin.Tuple.tupleHashOf [hashInt ((i / 8 : Nat) : Int), hashInt ((i % 8 : Nat) : Int)])
end L2.LW
set_option maxHeartbeats 4000000
set_option maxHeartbeats 4000000
set_option maxHeartbeats 4000000
namespace L2.LW
open PySem PySem.Spec PySem.W PySem.Calls PyProof.Rows
section
variable {X : Cx} {fn : Nat → List D → Option SV}
theorem zbA : OpR X (binaryOp .Add) (VR2 X.K (zao .addT)) := by
  rintro pins s σ H x y v u Q I rx ry ⟨W, ds, r, wf, hs, hf, q⟩
  obtain ⟨d, e, rfl, h1, h2⟩ := pr2 hs
  replace hf : zjI [d, e] = some r := hf
  unfold zjI at hf
  split at hf
  case h_2 => cases hf
  rename_i a b z
  cases z
  split at hf
  case isFalse => cases hf
  rename_i hl
  cases hf
  obtain ⟨p, xs, rfl, hp, rp⟩ := h1.tupH
  obtain ⟨p2, xs2, rfl, hp2, rp2⟩ := h2.tupH
  have l1 := rp.length
  have l2 := rp2.length
  by_cases hx : xs = []
  · subst hx
    cases rp
    cases rx; cases ry
    obtain ⟨its, rv, ht, hz⟩ := I.tuple (SqT.of hp)
    obtain ⟨its2, rv2, ht2, hz2⟩ := I.tuple (SqT.of hp2)
    cases rv
    obtain ⟨⟨c1, d1, da1, sl1⟩, ho, hc, n, hd⟩ := id ht
    obtain ⟨⟨c2, d2, da2, sl2⟩, ho2, hc2, n2, hd2⟩ := id ht2
    simp only at hc hd hc2 hd2
    subst hc hd hc2 hd2
    refine concat_meets ⟨_, ho, rfl⟩ ⟨_, ho2, rfl⟩ noFill_tuple_add seq_tuple_add PySem.F.slot_tuple_add PySem.F.entry_tuple_add (PySem.F.args_tuple_add_2 _ _) (tuple_addW0 p p2 _ _ n n2 d1 d2 sl1 sl2 (by simp)) ⟨ho, ho2, ?_⟩
    exact ⟨.ref p2, H, I, rfl, q _ H (.refl H) (.val (.tup hp2 rp2))⟩
  · refine zm7 pins s σ H _ _ v u Q I rx ry ⟨p, p2, xs, xs2, rfl, rfl, .of hp, .of hp2, hx, by rw [sizeLine_eq]; omega, fun z => ?_, fun _ p' hp' => ?_⟩
    · subst z
      cases rp2
      rw [List.append_nil] at q
      exact q _ H (.refl H) (.val (.tup hp rp))
    · exact q _ _ (za6 hp' _) (zff hp' (rp.append rp2))
end
end L2.LW
set_option maxHeartbeats 4000000
namespace L2.LW
open PySem PySem.Spec PySem.W PySem.Calls PyProof.Rows
noncomputable def Fly (l : List PySem.Env) (g : Heap) (H : Hp) (e : Addr) (c : Value) (h : Heap) : Prop :=
  ∃ B t, Heap.FlyingW B l e c (.ref t) h ∧ (∀ b o, ((∃ o0, g.get? b = some o0) ∨ H b ≠ Option.none) → b ∉ frs l → h.get? b = some o → B.get? b = some o) ∧ H e = Option.none
noncomputable def CX1 (P : Program) (w : World) : CXT := fun outer H s E e s' =>
  ∃ a c H', e = .ref a ∧ s'.os = s.os ∧ AllBare s'.gens ∧ Un (frs outer) [] H H' s.heap s'.heap ∧ HOk P w H' s'.heap ∧ Fly outer s.heap H' a c s'.heap ∧ E c Option.none H'
section
variable {P : Program} {w : World} {l : List PySem.Env} {H H' : Hp} {g h h' B : Heap} {e : Addr} {c t : Value}
theorem zpG (ok : HOk P w H' h) (nf : ∀ b ∈ frs l, H' b = Option.none) (full : ∀ b o, H' b ≠ Option.none → b ∉ frs l → h.get? b = some o → h'.get? b = some o) : HOk P w H' h' := fun a o q =>
  (ok a o q).stay (fun b u z q2 => by
    have hb : H' b ≠ Option.none := by
      rcases z with rfl | z
      · rw [q]; exact fun z => nomatch z
      · rw [z]; exact fun z => nomatch z
    exact full b u hb (fun m => hb (nf b m)) q2) (fun _ z => z) fun _ _ z => z
theorem zth (u : Un (frs l) [] H H' g h) (full : ∀ b o, (∃ o0, g.get? b = some o0) → b ∉ frs l → h.get? b = some o → h'.get? b = some o)
    (sl : ∀ b o, b ∈ frs l → h.get? b = some o → ∃ s, h'.get? b = some { o with slots := s }) : Un (frs l) [] H H' g h' where
  keep := fun b o q n hb hx => full b o ⟨o, q⟩ hb (u.keep b o q n hb hx)
  slot := fun b o q n hb hx => by
    obtain ⟨s1, e1⟩ := u.slot b o q n hb hx
    obtain ⟨s2, e2⟩ := sl b _ hb e1
    exact ⟨s2, e2⟩
  free := u.free
  there := fun b o q hx => by
    obtain ⟨o1, e1⟩ := u.there b o q hx
    by_cases hb : b ∈ frs l
    · obtain ⟨s2, e2⟩ := sl b _ hb e1
      exact ⟨_, e2⟩
    · exact ⟨_, full b o1 ⟨o, q⟩ hb e1⟩
  tups := u.tups
  frzs := u.frzs
  tbls := u.tbls
theorem zls (f : h.FunFrames B l) (k : h.UpToSlots h') : ∀ b o, b ∈ frs l → h.get? b = some o → ∃ s, h'.get? b = some { o with slots := s } := fun b o hb q => by
  obtain ⟨_, o1, e1, d1⟩ := f.mem hb
  rw [q] at e1
  cases e1
  exact k b o q d1
theorem obj_there {a : Addr} {o : HO} (x : ObjOk P w H h a o) : ∃ ob, h.get? a = some ob := by
  cases o with
  | lst xs => obtain ⟨_, _, _, _, e⟩ := x; exact ⟨_, e⟩
  | tup xs => obtain ⟨_, _, _, _, e, _⟩ := x; exact ⟨_, e⟩
  | dK kvs => obtain ⟨_, _, _, _, o, _, _, e, _⟩ := x; exact ⟨_, e⟩
  | dT kvs => obtain ⟨_, _, _, _, o, _, _, e, _⟩ := x; exact ⟨_, e⟩
  | set S n => obtain ⟨o, _, _, _, e, _⟩ := x; exact ⟨_, e⟩
  | ins C dx fs => obtain ⟨_, _, _, e, _⟩ := x; exact ⟨_, e⟩
  | own y => exact x
  | xd fs => obtain ⟨_, ⟨_, _, _, e, _⟩, _⟩ := x; exact ⟨_, e⟩
  | rng lo hi => obtain ⟨_, _, _, e⟩ := x; exact ⟨_, e⟩
  | frz ob u => obtain ⟨e, _⟩ := x; exact ⟨_, e⟩
  | tbl ps => exact ⟨_, show h.get? a = some _ from x⟩
  | met f y => exact ⟨_, show h.get? a = some _ from x⟩
  | ext φ => obtain ⟨_, e, _⟩ := x; exact e
end
section
variable {X : Cx} {pins : List (Addr × Obj)} {σ : St} {H : Hp} {s s' : Shared}
theorem Inv.flew {H' : Hp} {h' B : Heap} (I : Inv X pins σ H s) (os : s'.os = s.os) (bare : AllBare s'.gens) (u : Un (frs X.stack) [] H H' s.heap s'.heap) (ok : HOk X.prog X.w H' s'.heap)
    (fl : s'.heap.FunFrames B X.stack) (full : ∀ b o, ((∃ o0, s.heap.get? b = some o0) ∨ H' b ≠ Option.none) → b ∉ frs X.stack → s'.heap.get? b = some o → B.get? b = some o) (st : B.StaysIn h') (k : s'.heap.UpToSlots h') :
    Inv X pins σ H' { s' with heap := h' } ∧ Un (frs X.stack) [] H H' s.heap h' ∧ HOk X.prog X.w H' h' := by
  have nf : ∀ b ∈ frs X.stack, H' b = Option.none := fun b hb => by
    obtain ⟨_, o, ho, _⟩ := I.stack.mem hb
    exact u.free b o ho (I.stkFree b hb) (by simp)
  have u' : Un (frs X.stack) [] H H' s.heap h' := zth u (fun b o q nb e => st b o (full b o (.inl q) nb e)) (zls fl k)
  have ok' : HOk X.prog X.w H' h' := zpG ok nf fun b o q nb e => st b o (full b o (.inr q) nb e)
  exact ⟨I.call' (s' := { s' with heap := h' }) os u' ok' bare (fun b z => absurd z (by simp)), u', ok'⟩
end
section
variable {P : Program} {w : World} {K : PySem.W.Frag} {mg : Str → Option Value} {base : Heap} {N : List Str} {qual : Str} {scope : Scope} {f : Addr} {cd : Value} {A : Around} {outer : List PySem.Env} {s : Shared} {H : Hp} {E : XK}
theorem zke {pins : List (Addr × Obj)} {σ : St} {H1 H' : Hp} {s1 s' : Shared} {h' B : Heap} {a : Addr} {c : Value} {t : Addr} (I : Inv (zbM (CX1 P w) P w K mg base N qual scope f cd A outer s H E) pins σ H1 s1)
    (os : s'.os = s1.os) (bare : AllBare s'.gens) (u : Un (frs (envOfC qual scope s.heap.objs.size f cd :: outer)) [] H1 H' s1.heap s'.heap) (ok : HOk P w H' s'.heap) (fl : s'.heap.FunFrames B (envOfC qual scope s.heap.objs.size f cd :: outer))
    (full : ∀ b o, ((∃ o0, s1.heap.get? b = some o0) ∨ H' b ≠ Option.none) → b ∉ frs (envOfC qual scope s.heap.objs.size f cd :: outer) → s'.heap.get? b = some o → B.get? b = some o)
    (fl' : Heap.FlyingW B outer a c (.ref t) h') (k : s'.heap.UpToSlots h') (he : H' a = Option.none) (q : E c Option.none H') : CX1 P w outer H s E (.ref a) { s' with heap := h' } := by
  obtain ⟨J, u', ok'⟩ := Inv.flew (h' := h') I os bare u ok fl full fl'.1 k
  have nf : ∀ b, H' b ≠ Option.none → b ∉ frs (envOfC qual scope s.heap.objs.size f cd :: outer) := fun b hb hm => by
    obtain ⟨_, o, ho, _⟩ := I.stack.mem hm
    exact hb (u.free b o ho (I.stkFree b hm) (by simp))
  refine ⟨a, c, H', rfl, J.os, J.bare, J.base, ok', ⟨B, t, fl', fun b o hb nb e => ?_, he⟩, q⟩
  have fin : ∀ o2, s'.heap.get? b = some o2 → b ∉ frs (envOfC qual scope s.heap.objs.size f cd :: outer) → ((∃ o0, s1.heap.get? b = some o0) ∨ H' b ≠ Option.none) → B.get? b = some o := fun o2 e2 n2 z => by
    have e3 := full b o2 z n2 e2
    have e4 := fl'.1 b o2 e3
    have e4 : h'.get? b = some o2 := e4
    have e5 : h'.get? b = some o := e
    rw [e4] at e5
    cases e5
    exact e3
  rcases hb with ⟨o0, e0⟩ | hb
  · obtain ⟨o1, e1⟩ := I.base.there b o0 e0 (by simp [zbM])
    obtain ⟨o2, e2⟩ := u.there b o1 e1 (by simp)
    refine fin o2 e2 (fun hm => ?_) (.inl ⟨o1, e1⟩)
    rcases List.mem_cons.mp (I.stkSub b hm) with z | z
    · have l1 : b < s.heap.objs.size := Heap.lt_size e0
      have l2 : s.heap.objs.size ≤ b := by rw [z]; exact I.ok.above
      exact absurd l1 (Nat.not_lt.mpr l2)
    · exact nb z
  · cases z : H' b with
    | none => exact absurd z hb
    | some v =>
      obtain ⟨o2, e2⟩ := obj_there (ok b v z)
      exact fin o2 e2 (nf b hb) (.inr hb)
theorem zaV : zd5 (CX1 P w) (zbM (CX1 P w) P w K mg base N qual scope f cd A outer s H E) E := by
  rintro pins σ H1 s1 e s' I ⟨a, c, H', rfl, os, bare, un, ok, ⟨B, t, fl, full, he⟩, q⟩
  exact wpAny_leaves_onW I.ok.frames rfl fl fun h' fl' k => zke I os bare un ok fl.2.2.1 full fl' k he q
theorem zlt {pins : List (Addr × Obj)} {σ : St} {H1 : Hp} {s1 : Shared} {h1 : Heap} {a : Addr} {c : Value} {args : List Value} (I : Inv (zbM (CX1 P w) P w K mg base N qual scope f cd A outer s H E) pins σ H1 s1)
    (m : Heap.MadeExcOf s1.heap h1 a c args) (q : E c Option.none H1) : (zbM (CX1 P w) P w K mg base N qual scope f cd A outer s H E).xe (.ref a) { s1 with heap := h1 } := by
  have hin : ∀ env ∈ (envOfC qual scope s.heap.objs.size f cd :: outer), ∀ b, env.frame = some b → b ∈ (envOfC qual scope s.heap.objs.size f cd :: outer).filterMap (·.frame) := fun env he b hb => List.mem_filterMap.mpr ⟨env, he, hb⟩
  have he : H1 a = Option.none := by
    cases z : H1 a with
    | none => rfl
    | some v =>
      obtain ⟨o2, e2⟩ := obj_there (I.hok a v z)
      rw [m.new] at e2
      cases e2
  have ff := funFrames_hide (as := frs (envOfC qual scope s.heap.objs.size f cd :: outer)) I.stack hin
  refine wpAny_leaves_madeW (h := s1.heap) (base := hideAll s1.heap (frs (envOfC qual scope s.heap.objs.size f cd :: outer))) I.ok.frames rfl (fun b o e => of_hideAll _ e) ff m fun h' t fl' tp nt k => ?_
  refine zke (s' := { s1 with heap := h1 }) I rfl I.bare (Un.kept m.keeps) (I.hok.kept m.keeps) (ff.of_keeps fun b o e _ => ⟨o, m.keeps b o e, rfl⟩) (fun b o z nb e => ?_) fl' k he q
  have e1 : s1.heap.get? b = some o := by
    have old : ∃ o1, s1.heap.get? b = some o1 := by
      rcases z with z | z
      · exact z
      · cases z2 : H1 b with
        | none => exact absurd z2 z
        | some v => exact obj_there (I.hok b v z2)
    obtain ⟨o1, e1⟩ := old
    have e2 : h1.get? b = some o1 := m.keeps b o1 e1
    have e3 : h1.get? b = some o := e
    rw [e2] at e3
    cases e3
    exact e1
  exact hideAll_get _ e1 nb
end
end L2.LW
set_option maxHeartbeats 4000000
namespace L2.LW
open PySem PySem.Spec PySem.W PySem.Calls PyProof.Rows
noncomputable def zti : List Value := [.type "ValueError", .type "Exception", .type "BaseException", .type "object"]
noncomputable abbrev zmJ (K : PySem.W.Frag) (C : Addr) : Prop := excIn K C zti "ValueError.__new__" = true
theorem znL {K : PySem.W.Frag} {h : Heap} {C : Addr} (X : K.In h) (q : zmJ K C) : ∃ bm N nm qn bs hdct sn sub ab col dd k0 k1 k2 k3 k5 mN,
    h.get? C = some (excClassObj nm qn C N bs bm hdct sn sub ab col dd k0 k1 k2 k3 k5 "ValueError.__new__") ∧ h.Ns N mN ∧ mN "__init__" = Option.none ∧ OwnTail h zti bm := by
  have q' : excIn K C zti "ValueError.__new__" = true := q
  unfold excIn at q'
  split at q'
  case h_2 => cases q'
  rename_i dd cd sl ho
  split at q'
  case h_2 => cases q'
  rename_i C2 bm j0 j1 j2 j3 n j5 hm hs
  simp only [Bool.and_eq_true, beq_iff_eq, Bool.not_eq_true'] at q'
  obtain ⟨⟨⟨⟨⟨rfl, rfl⟩, hdel⟩, ht⟩, hok⟩, hni⟩ := q'
  rcases cd with ⟨nm, bs, mro, ns, qn, hd, sn, sub, ab, col, del⟩
  dsimp only at hm hdel hok hni
  subst hm hdel
  have es : sl = #[j0, j1, j2, j3, some (.builtin "ValueError.__new__"), j5] := by
    cases sl
    simpa using hs
  subst es
  exact ⟨_, _, _, _, _, _, _, _, _, _, _, _, _, _, _, _, _, X _ _ ho, .of_isNs (isNs_of_in X hok), nsMap_none_of_in X hok hni, tail_of_in X ht⟩
noncomputable def zpH (X : Cx) (E : XK) : Prop := ∀ (pins : List (Addr × Obj)) (σ : St) (H : Hp) (s : Shared) (h : Heap) (a : Addr) (c : Value) (args : List Value), Inv X pins σ H s → Heap.MadeExcOf s.heap h a c args → E c Option.none H → X.xe (.ref a) { s with heap := h }
section
variable {X : Cx} {E : XK} {x : Str} {C : Addr} {e : Expr} {te : TE} {np cpos pos : Pos}
noncomputable def zpI (E : XK) (C : Addr) (te : TE) : TS := fun _ σ H => te σ H fun _ H1 => E (.ref C) Option.none H1
theorem zlu (hc : X.calm = true) (hM : zpH X E) (hq : zmJ X.K C) (hg : Gl X x) (hm : X.mg x = some (.ref C)) (he : PE X e te) (hdb : (x == ("__debug__" : Str)) = false := by decide)
    (hst : starEach [e] X.env = (false, eval e X.env) :: starEach [] X.env := by rfl) : PS X (.Raise (some (.Call (.Name x np) [e] [] cpos)) Option.none pos) (zpI E C te) := by
  intro pins s σ H D I h
  obtain ⟨bm, N, nm, qn, bs, hdct, sn, sub, ab, col, dd, k0, k1, k2, k3, k5, mN, hC, hN, hni, T⟩ := znL I.mod.kin hq
  refine wpAny_Raise_call_subT (C := C) (nm := nm) (q := qn) (N := N) (bs := bs) (bm := bm) (hdct := hdct) (sn := sn) (sub := sub) (ab := ab) (col := col) (dd := dd) (k0 := k0) (k1 := k1) (k2 := k2) (k3 := k3) (k5 := k5)
    PySem.F.excBase_ValueError (mN := mN) (T.hasType PySem.F.excBase_ValueError.hasBase) (I.ok.hd hc) (by rw [hst]; rfl) hni (zd4 I hg hm ⟨rfl, ?_⟩ hdb)
  rw [hst]
  refine evalArgs_plain (spliced_cons (thn (he pins s σ H _ I h) fun u s1 ⟨v, H1, I1, r1, q1⟩ => spliced_nil ⟨rfl, by size_fits, ?_, ?_, ?_, fun h' a m => ?_⟩))
  · exact I1.bk _ _ hC
  · exact hN.keeps I1.bk
  · exact T.keeps I1.bk
  · exact hM pins σ H1 s1 h' a _ _ I1 m q1
end
end L2.LW
set_option maxHeartbeats 4000000
namespace L2.LW
open PySem PySem.Spec PySem.W PySem.Calls PyProof.Rows
noncomputable def FlXOk (K : PySem.W.Frag) (cl : Nat → Value) (E : XK) (W : Addr → Prop) (ρ : LW.Env) (σ : St) (W' : Addr → Prop) (ρ' : LW.Env) (σ' : St) (H' : Hp) (D : Ends) : FlX → Prop
  | .fl f => FlOk K W ρ σ W' ρ' σ' H' D f
  | .ex c => E (cl c) Option.none H'
noncomputable def tX (K : PySem.W.Frag) (cl : Nat → Value) (E : XK) (ex : LW.Env → Option (FlX × LW.Env)) : TS := fun D σ H => ∃ W ρ x, R K W ρ σ H ∧ ex ρ = some x ∧ ∀ W' σ' H', SPost K W ρ σ H W' x.2 σ' H' → FlXOk K cl E W ρ σ W' x.2 σ' H' D x.1
theorem FlXOk.back {K : PySem.W.Frag} {cl : Nat → Value} {E : XK} {W W1 W2 : Addr → Prop} {ρ ρ1 ρ2 : LW.Env} {σ σ1 σ2 : St} {H H1 H2 : Hp} {D : Ends} {fl : FlX} (p : SPost K W ρ σ H W1 ρ1 σ1 H1) (h : FlXOk K cl E W ρ σ W2 ρ2 σ2 H2 D fl) : FlXOk K cl E W1 ρ1 σ1 W2 ρ2 σ2 H2 D fl := by
  cases fl with
  | fl f => exact FlOk.back (ρ2 := ρ2) p h
  | ex c => exact h
structure IX (X : Cx) (cl : Nat → Value) (E : XK) (ex : LW.Env → Option (FlX × LW.Env)) (st : Stmt) : Prop where
  h : PS X st (tX X.K cl E ex)
structure IXs (X : Cx) (cl : Nat → Value) (E : XK) (ex : LW.Env → Option (FlX × LW.Env)) (st : List Stmt) : Prop where
  h : PSs X st (tX X.K cl E ex)
noncomputable def spX (K : PySem.W.Frag) (cl : Nat → Value) (fa : Nat → List D → Option Ans) (i : Nat) : Sp := fun vs H Q E => ∃ W ds, Wf W H ∧ Reps K W H ds vs ∧
  ((∃ r, fa i ds = some (.ok r []) ∧ ∀ v H', Same H H' → Res K W H H' r v → Q v H') ∨ ∃ c, fa i ds = some (.ex c) ∧ ∀ H', Same H H' → E (cl c) Option.none H')
section
variable {X : Cx} {cl : Nat → Value} {E : XK} {fa : Nat → List D → Option Ans} {fuel : Nat} {st : Stmt} {sts sts' : List Stmt} {s : S} {t : T} {ts t1 t2 : Ts} {e c : Expr} {es : List Expr} {cs : Es} {cc : LW.E} {x y : Str} {p pos : Pos}
theorem zaG : IXs X cl E (zbr fa fuel .nil) [] := .mk <| zhg.imp fun D σ H zz3 => by
  obtain ⟨W, ρ, x, hR, hx, q⟩ := zz3
  simp only [zbr] at hx; cases hx; exact q W σ H (.same hR (.refl H))
theorem zba : IXs X cl E (zbr fa fuel (.cons .stuck .nil)) sts := .mk fun pins s σ H D I zz6 => by
  obtain ⟨W, ρ, x, hR, hx, q⟩ := zz6
  simp only [zbr, exT] at hx; cases hx
theorem zai (h1 : IX X cl E (exT fa fuel t) st) (h2 : IXs X cl E (zbr fa fuel ts) sts) : IXs X cl E (zbr fa fuel (.cons t ts)) (st :: sts) :=
  .mk <| (ze9 h1.h h2.h).imp fun D σ H zz3 => by
    obtain ⟨W, ρ, x, hR, hx, q⟩ := zz3
    simp only [zbr, jo1] at hx
    obtain ⟨⟨fl, ρ1⟩, e1, e2⟩ := hx
    refine ⟨W, ρ, (fl, ρ1), hR, e1, fun W1 σ1 H1 p1 => ?_⟩
    cases fl with
    | ex c => cases e2; exact q W1 σ1 H1 p1
    | fl f =>
      cases f with
      | nx => exact ⟨W1, ρ1, x, p1.r, e2, fun W2 σ2 H2 p2 => FlXOk.back p1 (q W2 σ2 H2 (p1.trans p2 hR))⟩
      | br => cases e2; exact q W1 σ1 H1 p1
      | ct => cases e2; exact q W1 σ1 H1 p1
      | rt r => cases e2; exact q W1 σ1 H1 p1
theorem zrc (h : IS X (exS fa fuel s) st) : IX X cl E (exT fa fuel (.pl s)) st := .mk <| h.h.imp fun D σ H zz3 => by
  obtain ⟨W, ρ, x, hR, hx, q⟩ := zz3
  simp only [exT, jo2] at hx
  obtain ⟨⟨fl, ρ1⟩, e1, rfl⟩ := hx
  exact ⟨W, ρ, (fl, ρ1), hR, e1, q⟩
theorem zfr {C : Addr} {te : TE} (k : Nat) {np cpos : Pos} (hc : X.calm = true) (hM : zpH X E) (hq : zmJ X.K C) (hcl : cl k = .ref C) (hg : Gl X x) (hm : X.mg x = some (.ref C)) (he : PE X e te) (hte : ∀ σ H Q, (∀ v, Q v H) → te σ H Q) (hdb : (x == ("__debug__" : Str)) = false)
    (hst : starEach [e] X.env = (false, eval e X.env) :: starEach [] X.env) : IX X cl E (exT fa fuel (.raise k)) (.Raise (some (.Call (.Name x np) [e] [] cpos)) Option.none pos) :=
  .mk <| (zlu hc hM hq hg hm he hdb hst).imp fun D σ H zz3 => by
    obtain ⟨W, ρ, z, hR, hz, q⟩ := zz3
    simp only [exT] at hz
    cases hz
    refine hte σ H _ fun v => ?_
    have := q W σ H (.same hR (.refl H))
    rw [← hcl]
    exact this
theorem zgn (hc : IT X (prj fa) c cc) (h1 : IXs X cl E (zbr fa fuel t1) sts) (h2 : IXs X cl E (zbr fa fuel t2) sts') : IX X cl E (exT fa fuel (.ifs cc t1 t2)) (.If c sts sts' pos) :=
  .mk <| (zoP hc.h h1.h h2.h).imp fun D σ H zz3 => by
    obtain ⟨W, ρ, y, hR, hy, q⟩ := zz3
    simp only [exT, jo1] at hy
    obtain ⟨k, e1, e2⟩ := hy
    refine ⟨W, ρ, k, hR, e1, fun H1 w1 => ?_⟩
    have p1 := SPost.same hR w1
    show if k = true then tX X.K cl E (zbr fa fuel t1) D σ H1 else tX X.K cl E (zbr fa fuel t2) D σ H1
    cases k with
    | true => rw [if_pos rfl] at e2 ⊢; exact ⟨W, ρ, y, p1.r, e2, fun W2 σ2 H2 p2 => FlXOk.back p1 (q W2 σ2 H2 (p1.trans p2 hR))⟩
    | false => rw [if_neg Bool.false_ne_true] at e2 ⊢; exact ⟨W, ρ, y, p1.r, e2, fun W2 σ2 H2 p2 => FlXOk.back p1 (q W2 σ2 H2 (p1.trans p2 hR))⟩
noncomputable def tCx (K : PySem.W.Frag) (cl : Nat → Value) (E : XK) (fa : Nat → List D → Option Ans) (i : Nat) (cs : Es) : TE := fun σ H Q => ∃ W ρ a, R K W ρ σ H ∧ zjP fa i cs ρ = some a ∧ match a with
  | .ok r [] => ∀ v H', Same H H' → Res K W H H' r v → Q v H'
  | .ok _ _ => False
  | .ex c => ∀ H', Same H H' → E (cl c) Option.none H'
theorem zar {k i : Nat} {f : Addr} {fd : FuncData} {ps : List Str} (F : FnOk X.prog X.w X.K X.mg X.base (CX1 X.prog X.w) k f fd ps (spX X.K cl fa i)) (hP : zd5 (CX1 X.prog X.w) X E) (hr : Room k X.A) (hg : Gl X x) (hm : X.mg x = some (.ref f))
    (hk : PySem.W.keepIn X.K (.ref f) = true) (hb : Binds X.K fd ps []) (ha : IA X (prj fa) (e :: es) cs) (hdb : (x == ("__debug__" : Str)) = false) (he : starEach (e :: es) X.env = (false, eval e X.env) :: starEach es X.env)
    (hpl : (backTo pos (starEach es X.env)).any (·.1) = false) : PE X (.Call (.Name x p) (e :: es) [] pos) (tCx X.K cl E fa i cs) :=
  (zjy F hr hg hm hk hb .nil hP ha.h hdb he hpl).imp fun σ H Q zz3 => by
    obtain ⟨W, ρ, a, hR, h, q⟩ := zz3
    unfold zjP at h
    rw [jo1] at h
    obtain ⟨rs, e1, e2⟩ := h
    split at e2
    · cases e2
    rename_i hl
    have hl : rs.any SV.lent = false := by simpa using hl
    refine ⟨W, ρ, rs, hR, e1, fun vs H1 s1 f => ?_⟩
    show spX X.K cl fa i (vs ++ []) H1 Q E
    rw [List.append_nil]
    refine ⟨W, _, hR.wf' s1, zfo f hl, ?_⟩
    cases a with
    | ok r outs =>
      cases outs with
      | nil => exact .inl ⟨r, e2, fun v H' s2 h => q v H' (s1.trans s2) (h.back s1)⟩
      | cons _ _ => exact q.elim
    | ex c => exact .inr ⟨c, e2, fun H' s2 => q H' (s1.trans s2)⟩
section
variable {i : Nat} (hp : PE X e (tCx X.K cl E fa i cs))
include hp
theorem zaW (hs : swapsWith e Option.none pos.line X.env = pure false := by rfl) : IX X cl E (exT fa fuel (.callX i cs)) (.Expr e pos) :=
  .mk <| (zjr hp hs).imp fun D σ H zz3 => by
    obtain ⟨W, ρ, x, hR, hx, q⟩ := zz3
    simp only [exT, jo1] at hx
    obtain ⟨a, e1, e2⟩ := hx
    refine ⟨W, ρ, a, hR, e1, ?_⟩
    split at e2
    · cases e2; exact fun v H' s1 _ => q W σ H' (.same hR s1)
    · cases e2; exact fun H' s1 => q W σ H' (.same hR s1)
    · cases e2
theorem zcJ : IX X cl E (exT fa fuel (.retX i cs)) (.Return (some e) pos) :=
  .mk <| (zhK hp).imp fun D σ H zz3 => by
    obtain ⟨W, ρ, x, hR, hx, q⟩ := zz3
    simp only [exT, jo1] at hx
    obtain ⟨a, e1, e2⟩ := hx
    refine ⟨W, ρ, a, hR, e1, ?_⟩
    split at e2
    · split at e2
      · cases e2
      rename_i hl
      cases e2
      intro v H1 s1 h
      cases h with
      | val h => exact q W σ H1 (.same hR s1) v (.val h)
      | new h e r =>
        refine q _ σ H1 ⟨hR.add s1 h e, fun b o q _ => s1 b o q, (zdn (W := W) s1 h).win, fun b w n => ⟨.inl w, n⟩, fun _ => ⟨.rfl, fun _ => rfl⟩⟩ _ (.new (.inr rfl) (fun z => hR.wf _ z.1 h) (fun ⟨j, z1, z2⟩ => ?_) e r)
        obtain ⟨d2, z1⟩ := z1
        obtain ⟨b, o, g1, g2, g3, _⟩ := hR.own j _ d2 z1 rfl
        rw [g1] at z2
        cases z2
        exact hR.wf _ g2 h
      | see h e r => simp [SV.lent] at hl
    · cases e2; exact fun H' s1 => q W σ H' (.same hR s1)
    · cases e2
theorem ztj (j : Nat) {pos' : Pos} (hN : X.N.Nodup) (hi : X.N[j]? = some x) (hx : Loc X.env.scope x) (hs : swapsWith e (some (.Name x pos')) pos.line X.env = pure false := by rfl)
    (hf : X.fn x = true ∨ X.env.scope.names.lookup x = some .local := by first | exact .inl rfl | exact .inr rfl | assumption) : IX X cl E (exT fa fuel (.asgX j i cs)) (.Assign [.Name x pos'] e pos) :=
  .mk <| (zmw hN hi hx hp hs hf).imp fun D σ H zz3 => by
    obtain ⟨W, ρ, x, hR, hx, q⟩ := zz3
    simp only [exT, jo1] at hx
    obtain ⟨a, e1, e2⟩ := hx
    refine ⟨W, ρ, a, hR, e1, ?_⟩
    split at e2
    · split at e2
      · cases e2
      rename_i hl
      cases e2
      simp only [Bool.not_eq_true, Bool.or_eq_false_iff, Bool.not_eq_false'] at hl
      intro v H1 s1 h
      cases h with
      | val h => exact q W _ H1 (zcl hR s1 h (zd9 hl.2))
      | new h e r => exact q _ _ H1 (zdG hR s1 h e r (zd9 hl.2))
      | see h e r => simp [SV.lent] at hl
    · cases e2; exact fun H' s1 => q W σ H' (.same hR s1)
    · cases e2
end
end
end L2.LW
set_option maxHeartbeats 4000000
namespace L2.LW
open PySem PySem.Spec PySem.W PySem.Calls PyProof.Rows
section
variable {K : PySem.W.Frag} {x t c : Value} {H : Heap → Prop}
theorem znM (ty : ∀ (M : Model) (h : Heap), K.In h → H h → Looks M h (typeOf x) t) (e : kitOne K t c = some true) : Answers (fun s => K.In s.heap ∧ H s.heap) x c true := by
  rintro dep tk prog w A R ⟨h0, g, d, tt, os⟩ ⟨⟨X, p⟩, hq⟩
  have LT := ty (model prog w) h0 X p
  unfold kitOne at e
  unfold Builtin.«isinstance.nested»
  refine wpAny_bind (LT.at ?_)
  by_cases q : (t == c) = true
  · rw [if_pos q]
    first
      | exact wpAny_bind (wpAny_rule (hq tt))
      | exact wpAny_bind (wpAny_rule (wpAny_pure (hq tt)))
      | ((repeat lk); exact hq tt)
  · rw [if_neg q] at e ⊢
    obtain ⟨h1, h2, h3⟩ := kit_cls (M := model prog w) X e
    have h4 : Looks (model prog w) h0 (isInstance x c) true := LT.andThen h3
    refine wpAny_bind (h1.at ?_)
    rw [if_pos (by decide)]
    k_delta "plainIsInstance"
    refine wpAny_bind (wpAny_bind (h2.at ?_))
    simp only [Bool.not_true, Bool.false_eq_true, if_false]
    refine wpAny_bind (h4.at ?_)
    first
      | exact wpAny_pure (wpAny_pure (hq tt))
      | (simp only [if_true]; first | exact wpAny_pure (wpAny_pure (hq tt)) | exact wpAny_pure (hq tt) | exact wpAny_bind (wpAny_pure (wpAny_pure (hq tt))))
variable {prog : Program} {w : World} {A : Around} {E : Value → Shared → Prop} {s : Shared} {Q : Value → Shared → Prop}
theorem zlv (ty : ∀ (M : Model) (h : Heap), K.In h → H h → Looks M h (typeOf x) t) (X : K.In s.heap) (p : H s.heap) (e : kitOne K t c = some true) (hx : x ≠ .builtin "__main__.__loader__#opaque") (h : ∀ tk, Q (.bool true) { s with toks := tk }) :
    wpAny (model prog w) A (call (.builtin "isinstance") [x, c]) Q E s :=
  call_isinstance (S := fun _ R s => (K.In s.heap ∧ H s.heap) ∧ ∀ tk, R (.ok (.ret (.bool true))) { s with toks := tk })
    (fun prog w A R s hs => isinstance_outer (znM ty e 0 _ prog w A R s hs) hx) ⟨⟨X, p⟩, h⟩
end
noncomputable abbrev zhs (X : Cx) (a : Addr) (o : Obj) : Cx := { X with A := X.A.mark (some (.ref a)), calm := false, pn := (a, o) :: X.pn, xe := fun _ _ => False }
section
variable {X : Cx} {pins : List (Addr × Obj)} {σ : St} {H : Hp} {s : Shared} {a : Addr} {o : Obj}
theorem zpJ (ok : X.Ok) : (zhs X a o).Ok :=
  ⟨ok.mod, ok.kind, ok.glob, ok.blt, ok.above, ok.inj, ok.has, ok.cab, (fun z => nomatch z), ok.frames, ok.stk, ok.exf, ok.bs, ok.bsz, ok.noex, ok.exfs, ok.funs, ok.frf⟩
theorem zkf (I : Inv X pins σ H s) (h1 : s.heap.get? a = some o) (h2 : H a = Option.none) (h3 : a ≠ X.env.locals) (h4 : a ∉ X.fs) (h5 : ∀ v, o.data ≠ .cell v) : Inv (zhs X a o) pins σ H s :=
  ⟨zpJ I.ok, I.os, I.bare, I.base, I.loc, I.cell, I.free, I.freeC, fun p hp => by
    rcases List.mem_cons.mp (show p ∈ (a, o) :: (X.pn ++ pins) from hp) with rfl | hp
    · exact ⟨h1, h2, h3, h4, h5⟩
    · exact I.pin p hp, I.hok, I.len⟩
theorem znN (I : Inv (zhs X a o) pins σ H s) (ok : X.Ok) : Inv X pins σ H s :=
  ⟨ok, I.os, I.bare, I.base, I.loc, I.cell, I.free, I.freeC, fun p hp => I.pin p (List.mem_cons_of_mem _ hp), I.hok, I.len⟩
theorem Inv.gone {k : Nat} {n : Str} {m : Str → Option Value} {h' : Heap} {v : Option Value} {tk : Nat} (I : Inv X pins σ H s) (hN : X.N.Nodup) (hi : X.N[k]? = some n)
    (hl : ∀ (i : Nat) (x : Str) (v : V), X.N[i]? = some x → σ[i]? = some (some v) → Vis X.env.scope x → ∃ u, RelV v u ∧ zuC X.env s.heap m x u)
    (hn : h'.Ns X.env.locals (fun x => if x = n then v else m x)) (hs : Heap.SameBut X.env.locals s.heap h') : Inv X pins (σ.set k Option.none) H { s with heap := h', toks := tk } := by
  have cne := I.cne
  have low : ∀ b o, X.s₀.heap.get? b = some o → b ≠ X.env.locals := fun b o e => Nat.ne_of_lt (Nat.lt_of_lt_of_le (Heap.lt_size e) I.ok.above)
  refine ⟨I.ok, I.os, I.bare, ⟨fun b o e z hb hx => (hs.2 b (low b o e)).trans (I.base.keep b o e z hb hx), fun b o e z hb hx => ?_, I.base.free, fun b o e hx => ?_, I.base.tups, I.base.frzs, I.base.tbls⟩, ⟨_, hn, fun j y w e1 e2 e3 => ?_⟩, fun y c e => ?_, I.free, I.freeC, fun p hp => ?_, fun b ob e => ?_, by rw [List.length_set]; exact I.len⟩
  · obtain ⟨sl, e1⟩ := I.base.slot b o e z hb hx
    exact ⟨sl, (hs.2 b (low b o e)).trans e1⟩
  · obtain ⟨o', e1⟩ := I.base.there b o e hx
    exact ⟨o', (hs.2 b (low b o e)).trans e1⟩
  · by_cases hj : j = k
    · subst hj
      rcases za1 e2 with ⟨_, z, _⟩ | ⟨ne, _⟩
      · cases z
      · exact absurd rfl ne
    · rw [List.getElem?_set_ne (Ne.symm hj)] at e2
      obtain ⟨u, r, q⟩ := hl j y w e1 e2 e3
      refine ⟨u, r, ?_⟩
      rcases q with ⟨kk, e⟩ | ⟨kk, c, e, z⟩
      · have ne : y ≠ n := fun e => hj (ze7 hN e1 (e ▸ hi))
        exact .inl ⟨kk, by simp [ne, e]⟩
      · exact .inr ⟨kk, c, e, z.sameBut hs (cne y c e)⟩
  · obtain ⟨w, z⟩ := I.cell y c e
    exact ⟨w, z.sameBut hs (cne y c e)⟩
  · obtain ⟨e, z, ne, nf, d⟩ := I.pin p hp
    exact ⟨(hs.2 p.1 ne).trans e, z, ne, nf, d⟩
  · refine (I.hok b ob e).stay (fun c u hc q => (hs.2 c ?_).trans q) (fun _ q => q) fun _ _ q => q
    rintro rfl
    have fr := I.free
    rcases hc with z | z
    · rw [z, e] at fr; cases fr
    · rw [z] at fr; cases fr
noncomputable def tIs (k : Nat) (a : Addr) : TE := fun σ H Q => σ[k]? = some (some (.ref a)) ∧ Q (.bl true) H
theorem zmK {k : Nat} {n y : Str} {c : V} {cls cv : Value} {p p1 p2 pos : Pos} (hN : X.N[k]? = some n) (hv : Vis X.env.scope n) (hd : (n == ("__debug__" : Str)) = false) (hcd : (n == ("__classdict__" : Str)) = false)
    (ho : o.cls = cls) (hc : kitOne X.K cls cv = some true) (hg : Gl X "isinstance") (hm : X.mg "isinstance" = Option.none) (hcv : ∀ u, RelV c u → u = cv) (hy : PE (zhs X a o) (.Name y p2) (tC c))
    (h1 : starEach [Expr.Name n p1, .Name y p2] X.env = (false, eval (.Name n p1) X.env) :: starEach [Expr.Name y p2] X.env) (h2 : starEach [Expr.Name y p2] X.env = (false, eval (.Name y p2) X.env) :: starEach [] X.env)
    (hpl : (backTo pos (starEach [Expr.Name y p2] X.env)).any (·.1) = false) :
    PE (zhs X a o) (.Call (.Name "isinstance" p) [.Name n p1, .Name y p2] [] pos) (tIs k a) := by
  have cr : CallR (zhs X a o) (.builtin "isinstance") (fun vs H Q => vs = [.ref a, c] ∧ Q (.bl true) H) := by
    rintro pins s σ H xs us Q I rv ⟨rfl, q⟩
    cases rv with
    | cons r1 rv =>
      cases rv with
      | cons r2 rv =>
        cases rv
        cases r1
        obtain rfl := hcv _ r2
        have pin := I.pin (a, o) (List.mem_append_left _ List.mem_cons_self)
        refine zlv (K := X.K) (t := cls) (H := fun h => ∃ o', h.get? a = some o' ∧ o'.cls = cls) (fun M h _ ⟨o', e1, e2⟩ => e2 ▸ (Looks.ld e1).andThen .now) I.kIn ⟨o, pin.1, ho⟩ hc (fun z => nomatch z) fun tk => ⟨.bl true, H, I.tok tk, rfl, q⟩
  refine (zfa cr hg hm PyProof.Rows.boot_isinstance (zcg (zhJ hN hv hd hcd) (zcg hy zf8 h2) h1) (by decide) (by decide) h1 hpl).imp fun σ H Q ⟨hk, q⟩ => ?_
  exact ⟨_, hk, rfl, q⟩
theorem zlw {x : Str} {C : Addr} {p : Pos} (hg : Gl X x) (hm : X.mg x = some (.ref C)) (hd : (x == ("__debug__" : Str)) = false) : PE X (.Name x p) (tC (.ref C)) :=
  fun _ _ _ H _ I h => zd4 I hg hm ⟨.ref C, H, I, rfl, h⟩ hd
end
end L2.LW
set_option maxHeartbeats 4000000
namespace L2.LW
open PySem PySem.Spec PySem.W PySem.Calls PyProof.Rows
noncomputable abbrev ziv (X : Cx) (pn : List (Addr × Obj)) (xe : Value → Shared → Prop) : Cx := { X with pn := pn, xe := xe }
theorem zpK {X : Cx} {pins : List (Addr × Obj)} {σ : St} {H : Hp} {s : Shared} {xe : Value → Shared → Prop} (I : Inv X pins σ H s) : Inv (ziv X (X.pn ++ pins) xe) [] σ H s :=
  ⟨⟨I.ok.mod, I.ok.kind, I.ok.glob, I.ok.blt, I.ok.above, I.ok.inj, I.ok.has, I.ok.cab, I.ok.hd, I.ok.frames, I.ok.stk, I.ok.exf, I.ok.bs, I.ok.bsz, I.ok.noex, I.ok.exfs, I.ok.funs, I.ok.frf⟩, I.os, I.bare, I.base, I.loc, I.cell, I.free, I.freeC, fun p hp => I.pin p (by simpa using hp), I.hok, I.len⟩
theorem zei {X : Cx} {pins pins' : List (Addr × Obj)} {σ : St} {H : Hp} {s : Shared} {xe : Value → Shared → Prop} (I : Inv (ziv X (X.pn ++ pins) xe) pins' σ H s) : Inv X pins σ H s :=
  ⟨⟨I.ok.mod, I.ok.kind, I.ok.glob, I.ok.blt, I.ok.above, I.ok.inj, I.ok.has, I.ok.cab, I.ok.hd, I.ok.frames, I.ok.stk, I.ok.exf, I.ok.bs, I.ok.bsz, I.ok.noex, I.ok.exfs, I.ok.funs, I.ok.frf⟩, I.os, I.bare, I.base, I.loc, I.cell, I.free, I.freeC, fun p hp => I.pin p (List.mem_append_left _ hp), I.hok, I.len⟩
section
variable {X : Cx} {pins : List (Addr × Obj)} {σ : St} {H : Hp} {s : Shared} {a : Addr} {o : Obj}
theorem zpL {D : Ends} {cls : Value} {C0 : Addr} {k : Nat} {n y : Str} {H1 H' : Hp} {s1 s' : Shared} {B : Heap} {t : Addr} {i1 i2 : Expr} {np lp rp hpos : Pos} {zdD : List ExceptHandler}
    (I : Inv X pins σ H1 s1) (hst : X.stack = X.env :: X.outer) (hfr : X.env.frame = some X.env.locals) (os : s'.os = s1.os) (bare : AllBare s'.gens) (u : Un (frs X.stack) [] H1 H' s1.heap s'.heap) (ok : HOk X.prog X.w H' s'.heap)
    (fl : Heap.FlyingW B X.stack a cls (.ref t) s'.heap) (full : ∀ b o, ((∃ o0, s1.heap.get? b = some o0) ∨ H' b ≠ Option.none) → b ∉ frs X.stack → s'.heap.get? b = some o → B.get? b = some o) (he : H' a = Option.none)
    (hx : exmOne X.K cls (.ref C0) = some true) (hg : Gl X y) (hm : X.mg y = some (.ref C0)) (hdb : (y == ("__debug__" : Str)) = false) (hN : X.N.Nodup) (hi : X.N[k]? = some n) (hlo : X.env.scope.names.lookup n = some .local)
    (h1 : ∀ o : Obj, o.cls = cls → PE (zhs X a o) i1 (tIs k a)) (h2 : ∀ o : Obj, o.cls = cls → PE (zhs X a o) i2 (tIs k a))
    (e1 : starEach [i1, i2] X.env = (false, eval i1 X.env) :: starEach [i2] X.env) (e2 : starEach [i2] X.env = (false, eval i2 X.env) :: starEach [] X.env)
    (q : ∀ p, H' p = Option.none → D.rt (.ref p) (upd H' p (.lst [.bl true, .bl true]))) :
    wpAny (model X.prog X.w) X.A (noteFrame (.ref a) X.env) (fun _ s₂ => wpAny (model X.prog X.w) X.A (setFlight (.ref a) Option.none) (fun _ s₃ =>
      wpAny (model X.prog X.w) X.A (handleBy (.ref a) X.env (.ExceptHandler (some (.Name y np)) (some n) [.Return (some (.List [i1, i2] lp)) rp] hpos :: zdD)) (SP X pins D) X.xe s₃) X.xe s₂) X.xe s' := by
  have hin : X.env.locals ∈ frs X.stack := by
    rw [hst]; unfold frs; rw [List.filterMap_cons, hfr]; exact List.mem_cons_self
  have ain : ∀ h : Heap, Heap.FlyingW B X.stack a cls (.ref t) h → ∃ ob, h.get? a = some ob ∧ ob.cls = cls ∧ (∀ v, ob.data ≠ .cell v) ∧ a ≠ X.env.locals ∧ a ∉ X.fs := fun h f => by
    obtain ⟨oe, vs, g1, g2, g3, _⟩ := f.first
    have nf : a ∉ frs X.stack := fun hm => by
      obtain ⟨_, o2, g4, g5⟩ := f.2.2.1.mem hm
      rw [g1] at g4; cases g4
      exact g5 vs g3
    refine ⟨oe, g1, g2, ?_, fun z => nf (by rw [z]; exact hin), fun z => nf ?_⟩
    · intro v z; rw [g3] at z; cases z
    · rw [hst]; unfold frs; rw [List.filterMap_cons, hfr]; exact List.mem_cons_of_mem _ z
  refine wpAny_looks_onW (L := X.env.locals) (outer := X.outer) (by rw [← hst]; exact I.ok.frames) hfr (by rw [← hst]; exact fl) fun h4 held4 k4 => ?_
  refine wpAny_landsW held4 fun h5 fl5 k5 => ?_
  rw [← hst] at fl5
  obtain ⟨J5, -, -⟩ := Inv.flew (h' := h5) I os bare u ok fl.2.2.1 full fl5.1 (k4.trans k5)
  obtain ⟨o5, g1, g2, g3, g4, g5⟩ := ain h5 fl5
  have S5 := zkf J5 g1 he g4 g5 g3
  refine wpAny_handleBy_cons (codeAny_handlers_test (zd4 (X := zhs X a o5) S5 hg hm ?_ hdb)) (by intro z; cases z)
  have LT : Looks (model X.prog X.w) h5 (typeOf (.ref a)) cls := g2 ▸ (Looks.ld g1).andThen .now
  refine (exm_one (K := X.K) S5.kIn LT hx).here ?_
  refine codeAny_handlers_suite_as ?_
  refine lands_againW (base := B) (l := X.stack) fl5 fun h6 fl6 k6 => ?_
  obtain ⟨J6, -, -⟩ := Inv.flew (h' := h6) I os bare u ok fl.2.2.1 full fl6.1 ((k4.trans k5).trans k6)
  obtain ⟨o6, g1, g2, g3, g4, g5⟩ := ain h6 fl6
  have S6 := zkf J6 g1 he g4 g5 g3
  refine ze8 (X := zhs X a o6) (i := k) (v := .ref a) S6 hN hi (.inl hlo) rfl (fun s7 I7 => ?_) (.inr hlo)
  have lk : k < σ.length := by rw [I.len]; exact (List.getElem?_eq_some_iff.mp hi).1
  have gk : (σ.set k (some (.ref a)))[k]? = some (some (.ref a)) := by simp [lk]
  have ps := ze9 (zhK (pos := rp) (zmy (pos := lp) (zcg (h1 o6 g2) (zcg (h2 o6 g2) zf8 e2) e1))) (zhg (X := zhs X a o6))
  have w := ps pins s7 _ H' { nx := fun _ _ => False, rt := fun v H2 => ∃ p, H' p = Option.none ∧ v = .ref p ∧ H2 = upd H' p (.lst [.bl true, .bl true]) } I7 ⟨gk, ⟨gk, by decide, fun p hp => ⟨p, hp, rfl, rfl⟩⟩⟩
  refine wpAny_mono w (fun f s8 h8 => ?_) fun _ _ z => z.elim
  cases f with
  | next => obtain ⟨_, _, _, z⟩ := h8; exact z.elim
  | brk => obtain ⟨_, _, _, z⟩ := h8; exact z.elim
  | cont => obtain ⟨_, _, _, z⟩ := h8; exact z.elim
  | ret u =>
    obtain ⟨v, σ8, H8, I8, rv, p, hp, rfl, rfl⟩ := h8
    obtain ⟨m, hn, hl⟩ := I8.loc
    exact wpAny_nameGoes_keeps hlo hn (by rw [I.ok.kind]; rfl) fun h9 v9 ns9 sb9 => ⟨.ref p, _, _, Inv.gone (znN I8 I.ok) hN hi hl ns9 sb9, rv, q p hp⟩
end
end L2.LW
set_option maxHeartbeats 4000000
namespace L2.LW
open PySem PySem.Spec PySem.W PySem.Calls PyProof.Rows
theorem zh2 {X : Cx} {pins pins' : List (Addr × Obj)} {xe : Value → Shared → Prop} {D : Ends} {f : Flow} {s : Shared} (h : SP (ziv X (X.pn ++ pins) xe) pins' D f s) : SP X pins D f s := by
  cases f with
  | next => obtain ⟨σ', H', I, q⟩ := h; exact ⟨σ', H', zei I, q⟩
  | brk => obtain ⟨σ', H', I, q⟩ := h; exact ⟨σ', H', zei I, q⟩
  | cont => obtain ⟨σ', H', I, q⟩ := h; exact ⟨σ', H', zei I, q⟩
  | ret u => obtain ⟨v, σ', H', I, r, q⟩ := h; exact ⟨v, σ', H', zei I, r, q⟩
section
variable {X : Cx} {cl : Nat → Value} {E : XK} {fa : Nat → List D → Option Ans} {fuel : Nat}
theorem ztk {b : Ts} {k k1 k2 : Nat} {cs : List Nat} {body : List Stmt} {C0 : Addr} {n y : Str} {i1 i2 : Expr} {np lp rp hpos pos : Pos} (hst : X.stack = X.env :: X.outer) (hfr : X.env.frame = some X.env.locals)
    (hb : ∀ (pn : List (Addr × Obj)) (xe : Value → Shared → Prop) (E1 : XK), zd5 (CX1 X.prog X.w) (ziv X pn xe) E1 → IXs (ziv X pn xe) cl E1 (zbr fa fuel b) body)
    (hx : ∀ c ∈ cs, exmOne X.K (cl c) (.ref C0) = some true) (hg : Gl X y) (hm : X.mg y = some (.ref C0)) (hdb : (y == ("__debug__" : Str)) = false) (hN : X.N.Nodup) (hi : X.N[k]? = some n) (hlo : X.env.scope.names.lookup n = some .local)
    (h1 : ∀ c ∈ cs, zmA c k1 = true → ∀ (a : Addr) (o : Obj), o.cls = cl c → PE (zhs X a o) i1 (tIs k a)) (h2 : ∀ c ∈ cs, zmA c k2 = true → ∀ (a : Addr) (o : Obj), o.cls = cl c → PE (zhs X a o) i2 (tIs k a))
    (e1 : starEach [i1, i2] X.env = (false, eval i1 X.env) :: starEach [i2] X.env) (e2 : starEach [i2] X.env = (false, eval i2 X.env) :: starEach [] X.env) :
    IX X cl E (exT fa fuel (.tryX b k cs (.ret [k1, k2]))) (.Try body [.ExceptHandler (some (.Name y np)) (some n) [.Return (some (.List [i1, i2] lp)) rp] hpos] [] [] pos) := .mk fun pins s σ H D0 I zz6 => by
  obtain ⟨W, ρ, x, hR, hx0, q⟩ := zz6
  refine wpAny_Try_except ?_
  simp only [exT, jo1] at hx0
  obtain ⟨⟨fl, ρ1⟩, g1, g2⟩ := hx0
  have hP : zd5 (CX1 X.prog X.w) (ziv X (X.pn ++ pins) fun e s₁ => wpAny (model X.prog X.w) X.A (noteFrame e X.env) (fun _ s₂ => wpAny (model X.prog X.w) X.A (setFlight e Option.none) (fun _ s₃ =>
      wpAny (model X.prog X.w) X.A (handleBy e X.env [.ExceptHandler (some (.Name y np)) (some n) [.Return (some (.List [i1, i2] lp)) rp] hpos]) (SP X pins D0) X.xe s₃) X.xe s₂) X.xe s₁)
      (fun cv _ H' => ∃ c ∈ cs, cv = cl c ∧ zmA c k1 = true ∧ zmA c k2 = true ∧ ∀ p, H' p = Option.none → D0.rt (.ref p) (upd H' p (.lst [.bl true, .bl true]))) := by
    rintro pins1 σ1 H1 s1 e s' I1 ⟨a, c, H', rfl, os, bare, un, ok, ⟨B, t, fl, full, he⟩, ⟨c', hc, rfl, hs1, hs2, q⟩⟩
    exact zpL (zei I1) hst hfr os bare un ok fl full he (hx c' hc) hg hm hdb hN hi hlo (h1 c' hc hs1 a) (h2 c' hc hs2 a) e1 e2 q
  have w := (hb _ _ _ hP).h [] s σ H D0 (zpK I) ⟨W, ρ, (fl, ρ1), hR, g1, fun W1 σ1 H1 p1 => ?_⟩
  · refine wpAny_mono w (fun f s1 h1 => ?_) fun _ _ z => z
    cases f with
    | next => exact wpAny_execs_nil (zh2 h1)
    | brk => exact zh2 h1
    | cont => exact zh2 h1
    | ret u => exact zh2 h1
  · cases fl with
    | fl f => cases g2; exact q W1 σ1 H1 p1
    | ex c =>
      simp only at g2
      split at g2
      case isFalse => cases g2
      rename_i hc
      simp only [hdX, List.all_cons, List.all_nil, Bool.and_true, Bool.and_eq_true, List.map_cons, List.map_nil] at g2
      split at g2
      case isFalse => cases g2
      rename_i hs
      cases g2
      refine ⟨c, by simpa using hc, rfl, hs.1, hs.2, fun p hp => ?_⟩
      have sm : Same H1 (upd H1 p (.lst [.bl true, .bl true])) := za6 hp _
      have rp : Reps X.K (add W1 p) (upd H1 p (.lst [.bl true, .bl true])) [.bl true, .bl true] [.bl true, .bl true] := .cons (.bl _) (.cons (.bl _) .nil)
      have p2 : SPost X.K W1 ρ1 σ1 H1 (add W1 p) ρ1 σ1 (upd H1 p (.lst [.bl true, .bl true])) :=
        ⟨p1.r.add sm hp zbx, fun b o q _ => sm b o q, (zdn (W := W1) sm hp).win, fun b w n => ⟨.inl w, n⟩, fun _ => ⟨.rfl, fun _ => rfl⟩⟩
      have ext := p1.ext hR
      refine q _ σ1 _ (p1.trans p2 hR) _ (.new (.inr rfl) (fun z => ?_) (fun ⟨j, z1, z2⟩ => ?_) zbx (.lst rp))
      · have := hR.wf p z.1
        rcases h0 : H p with _ | o
        · exact this h0
        · have := p1.keep p o h0 z.2
          rw [hp] at this; cases this
      · obtain ⟨d2, z1⟩ := z1
        obtain ⟨b, o, y1, y2, y3, _⟩ := hR.own j _ d2 z1 rfl
        have y1' : σ[j]? = some (some (.ref p)) := z2
        rw [y1] at y1'
        cases y1'
        have z3 : zhc ρ1 j := (p1.io j).1.mpr ⟨d2, z1⟩
        obtain ⟨d3, z4⟩ := z3
        obtain ⟨b2, o2, w1, w2, w3, _⟩ := p1.r.own j _ d3 z4 rfl
        rw [(p1.io j).2 ⟨d2, z1⟩, y1] at w1
        cases w1
        rw [hp] at w3; cases w3
end
theorem zbe {Pg : Program} {w : World} {K : PySem.W.Frag} {mg : Str → Option Value} {base : Heap} {x qual : Str} {st : Stmt} {f : Addr} {fd : FuncData} {N ps : List Str} {k n i : Nat} {P : Nat → Option Fn} {fuel : Nat} {F0 : Fn} {cl : Nat → Value} {tb : Ts}
    (F : Fun K x qual st f fd) (S : FnScope N ps (zaa st)) (hP : P i = some F0) (hnp : F0.np = ps.length) (hnl : F0.nl = N.length) (hxb : F0.xb = some tb)
    (hbody : ∀ (cdv : Value) (A : Around) (outer : List PySem.Env) (s : Shared) (H : Hp) (E : XK), Room k (A.deeper (envOfC qual (zaa st) s.heap.objs.size f cdv)) →
      IXs (zbM (CX1 Pg w) Pg w K mg base N qual (zaa st) f cdv A outer s H E) cl E (zbr (zah P fuel n) fuel tb) (zae st)) :
    FnOk Pg w K mg base (CX1 Pg w) (k + 1) f fd ps (spX K cl (zah P fuel (n + 1)) i) := by
  have dec : ∀ {ds : List D} {r : Ans}, zah P fuel (n + 1) i ds = some r → ds.length = F0.np ∧ zla (zbr (zah P fuel n) fuel tb (zcH [] 0 ds ++ List.replicate (F0.nl - F0.np) Option.none)) = some r := fun {ds r} h => by
    rw [zah, hP] at h
    simp only [Option.bind_some, hxb] at h
    split at h
    · exact ⟨by assumption, h⟩
    · cases h
  have dec0 := @dec
  obtain ⟨oc, od, kV, doc, pm, an, cdv, ct, osl, rfl, lk, hcd⟩ := F.ex
  refine zo1 lk hcd S (fun vs H Q E h => ?_) fun A outer s H vs Q E hr h => ⟨_, (hbody cdv A outer s H E hr).h, ?_⟩
  · obtain ⟨W, ds, wf, rp, ⟨r, e, _⟩ | ⟨c, e, _⟩⟩ := h
    · rw [← rp.length, (dec e).1, hnp]
    · rw [← rp.length, (dec e).1, hnp]
  · obtain ⟨W, ds, wf, rp, h⟩ := h
    have len : ds.length = F0.np := by
      obtain ⟨r, e, _⟩ | ⟨c, e, _⟩ := h
      · exact (dec e).1
      · exact (dec e).1
    have hlv := rp.length
    have hplN : ps.length ≤ N.length := by have := congrArg List.length S.pre; rw [List.length_take] at this; omega
    generalize hρ : zcH [] 0 ds ++ List.replicate (F0.nl - F0.np) Option.none = ρ at dec
    have at_ : ∀ {j : Nat} {x : SV}, ρ[j]? = some (some x) → ∃ d, ds[j]? = some d ∧ x = .val d := fun {j x} h => by
      rw [← hρ] at h
      obtain ⟨d, e1, e2⟩ := zj4 h
      exact ⟨d, e1, by simpa using e2⟩
    have noown : ∀ a, ¬ Own ρ (zch N vs) a := fun a zz1 => by
      obtain ⟨j, x, d, h1, hc, h2⟩ := zz1
      obtain ⟨d', e1, rfl⟩ := at_ h1
      cases hc
    have hR : R K W ρ (zch N vs) H := by
      refine ⟨fun j d h => ?_, fun j d h => ?_, fun j x d h hc => ?_, fun j k x y d e a h1 h2 c1 c2 h3 h4 => ?_, wf, ?_⟩
      · obtain ⟨d', e1, e2⟩ := at_ h
        cases e2
        obtain ⟨v, h1, h2⟩ := rp.get e1
        exact ⟨v, zb4 h1, h2⟩
      · obtain ⟨d', e1, e2⟩ := at_ h
        cases e2
      · obtain ⟨d', e1, rfl⟩ := at_ h
        cases hc
      · obtain ⟨d1, e1, rfl⟩ := at_ h1
        cases c1
      · rw [← hρ]
        unfold zch
        rw [List.length_append, List.length_append, zcn, List.length_map, List.length_replicate, List.length_replicate]
        omega
    have fin : ∀ {an : Ans}, zah P fuel (n + 1) i ds = some an → ∃ y : FlX × LW.Env, zbr (zah P fuel n) fuel tb ρ = some y ∧ zla (some y) = some an := fun {an} e => by
      have e' : zla (zbr (zah P fuel n) fuel tb ρ) = some an := by rw [← hρ]; exact (dec0 e).2
      cases hx : zbr (zah P fuel n) fuel tb ρ with
      | none => rw [hx] at e'; cases e'
      | some y => rw [hx] at e'; exact ⟨y, rfl, e'⟩
    obtain ⟨r, e, q⟩ | ⟨c, e, q⟩ := h
    · obtain ⟨⟨fl, ρ'⟩, hx, he⟩ := fin e
      refine ⟨W, ρ, (fl, ρ'), hR, hx, fun W' σ' H' p => ?_⟩
      have kp : Same H H' := fun b o h => p.keep b o h (noown b)
      have sub : ∀ b, W b → W' b := fun b w => (p.wout b w (noown b)).1
      cases fl with
      | ex c => cases he
      | fl f0 =>
        cases f0 with
        | br => cases he
        | ct => cases he
        | nx => cases he; exact q _ H' kp (.val .non)
        | rt r' =>
          cases he
          intro v hv
          cases hv with
          | val h => exact q v H' kp (.val (h.less sub))
          | new h nn n' eL rr =>
            have ha := (p.win _ h).resolve_left fun w => nn ⟨w, noown _⟩
            refine q _ H' kp (.new ha eL (rr.less fun b w => ?_))
            rcases w with w | rfl
            · exact sub b w
            · exact h
    · obtain ⟨⟨fl, ρ'⟩, hx, he⟩ := fin e
      refine ⟨W, ρ, (fl, ρ'), hR, hx, fun W' σ' H' p => ?_⟩
      have kp : Same H H' := fun b o h => p.keep b o h (noown b)
      cases fl with
      | ex c' => cases he; exact q H' kp
      | fl f0 => cases f0 <;> cases he
theorem zh3 {K : PySem.W.Frag} {W : Addr → Prop} {H : Hp} : ∀ {ds : List D} {vs : List V}, ds.length = vs.length → (∀ (k : Nat) (d : D), ds[k]? = some d → ∃ v, vs[k]? = some v ∧ Rep K W H d v) → Reps K W H ds vs
  | [], [], _, _ => .nil
  | [], _ :: _, l, _ => by cases l
  | _ :: _, [], l, _ => by cases l
  | d :: ds, v :: vs, l, h => by
    obtain ⟨v', h1, h2⟩ := h 0 d rfl
    cases h1
    exact .cons h2 (zh3 (by simpa using l) fun j d' z => h (j + 1) d' z)
theorem zaY {Pg : Program} {w : World} {K : PySem.W.Frag} {mg : Str → Option Value} {base : Heap} {f : Addr} {fd : FuncData} {ps : List Str} {k n i : Nat} {P : Nat → Option Fn} {fuel : Nat} {F0 : Fn} {cl : Nat → Value} {tb : Ts}
    (F : FnOk Pg w K mg base (CX1 Pg w) k f fd ps (spX K cl (zah P fuel (n + 1)) i)) (hP : P i = some F0) (hxb : F0.xb = some tb) : FnOk Pg w K mg base CX0 k f fd ps (spA K (zah P fuel (n + 1)) i []) := by
  have no : ∀ {ds r outs}, zah P fuel (n + 1) i ds = some (.ok r outs) → outs = [] := fun {ds r outs} h => by
    rw [zah, hP] at h
    simp only [Option.bind_some, hxb] at h
    split at h
    · generalize zbr (zah P fuel n) fuel tb _ = y at h
      unfold zla at h
      split at h <;> cases h <;> rfl
    · cases h
  have to : ∀ {vs H Q E}, spA K (zah P fuel (n + 1)) i [] vs H Q E → spX K cl (zah P fuel (n + 1)) i vs H Q E0 := fun {vs H Q E} ⟨W, ds, r, outs, wf, rp, e, q⟩ => by
    obtain rfl := no e
    refine ⟨W, ds, wf, ?_, .inl ⟨r, e, fun v H' s h => q v H' (fun a o z _ => s a o z) .nil h⟩⟩
    exact zh3 rp.len fun j d z => rp.val j d z (by simp)
  refine ⟨fun vs H Q E h => F.len vs H Q E0 (to h), fun A outer s H args us vs Q E hr e0 hb hv hs => codeAny_mono (F.run A outer s H args us vs Q E0 hr e0 hb hv (to hs)) fun r s' h => ?_⟩
  cases r with
  | ok fl => cases fl <;> exact h
  | error e => obtain ⟨_, _, _, _, _, _, _, _, _, z⟩ := h; exact z.elim
end L2.LW
namespace L2.LW
open PySem PySem.Spec PySem.W PySem.Calls PyProof.Rows
noncomputable def clV (CL : Nat → Addr) (c : Nat) : Value := .ref (CL c)
theorem all_nil {P : Nat → Prop} : ∀ c ∈ ([] : List Nat), P c := fun _ h => by cases h
theorem all_cons {P : Nat → Prop} {a : Nat} {l : List Nat} (h : P a) (t : ∀ c ∈ l, P c) : ∀ c ∈ a :: l, P c := fun c hc => by
  rcases List.mem_cons.mp hc with rfl | hc
  · exact h
  · exact t c hc
theorem zlx {K : PySem.W.Frag} {t : Value} : kitOne K t t = some true := by
  unfold kitOne
  rw [if_pos (by simp)]
section
variable {X : Cx} {CL : Nat → Addr} {cs : List Nat} {k : Nat} {n y : Str} {p p1 p2 pos : Pos}
theorem znO (k1 : Nat) (hk : k1 ≠ 0 ∧ k1 ≠ 7) (hN : X.N[k]? = some n) (hv : Vis X.env.scope n) (hd : (n == ("__debug__" : Str)) = false) (hcd : (n == ("__classdict__" : Str)) = false) (hg : Gl X "isinstance") (hm : X.mg "isinstance" = Option.none)
    (hgy : Gl X y) (hmy : X.mg y = some (.ref (CL k1))) (hdy : (y == ("__debug__" : Str)) = false) :
    ∀ c ∈ cs, zmA c k1 = true → ∀ (a : Addr) (o : Obj), o.cls = clV CL c → PE (zhs X a o) (.Call (.Name "isinstance" p) [.Name n p1, .Name y p2] [] pos) (tIs k a) := fun c _ hs a o ho => by
  have e : c = k1 := by
    unfold zmA at hs
    simp only [Bool.or_eq_true, beq_iff_eq] at hs
    omega
  subst e
  exact zmK (c := .ref (CL c)) (cv := .ref (CL c)) hN hv hd hcd ho zlx hg hm (fun u r => r) (zlw hgy hmy hdy) zab zab (zaj zab zan)
theorem znP (hN : X.N[k]? = some n) (hv : Vis X.env.scope n) (hd : (n == ("__debug__" : Str)) = false) (hcd : (n == ("__classdict__" : Str)) = false) (hg : Gl X "isinstance") (hm : X.mg "isinstance" = Option.none)
    (hgy : Gl X "ValueError") (hmy : X.mg "ValueError" = Option.none) (ha : ∀ c ∈ cs, kitOne X.K (clV CL c) (.type "ValueError") = some true) :
    ∀ c ∈ cs, zmA c 7 = true → ∀ (a : Addr) (o : Obj), o.cls = clV CL c → PE (zhs X a o) (.Call (.Name "isinstance" p) [.Name n p1, .Name "ValueError" p2] [] pos) (tIs k a) := fun c hc hs a o ho =>
  zmK (c := .ty "ValueError") (cv := .type "ValueError") hN hv hd hcd ho (ha c hc) hg hm (fun u r => r) (zjq (u := .type "ValueError") hgy hmy PyProof.Rows.Boot.«ValueError» rfl (by decide) (by decide)) zab zab (zaj zab zan)
end
theorem zaP {Pg : Program} {w : World} {K : PySem.W.Frag} {mg : Str → Option Value} {base : Heap} {f : Addr} {fd : FuncData} {ps : List Str} {k i : Nat} {P : Nat → Option Fn} {fuel : Nat} {cl : Nat → Value} : FnOk Pg w K mg base (CX1 Pg w) k f fd ps (spX K cl (zah P fuel 0) i) := by
  have no : ∀ vs H Q E, ¬ spX K cl (zah P fuel 0) i vs H Q E := fun vs H Q E zz4 => by
    obtain ⟨W, ds, _, _, h⟩ := zz4
    rcases h with ⟨r, e, _⟩ | ⟨c, e, _⟩ <;> cases e
  exact ⟨fun vs H Q E h => (no _ _ _ _ h).elim, fun A outer s H args us vs Q E _ _ _ _ h => (no _ _ _ _ h).elim⟩
end L2.LW
set_option maxHeartbeats 4000000
set_option maxRecDepth 100000
namespace L2.LW
open PySem PySem.Spec PySem.W PySem.Calls PyProof.Rows PySem.Builtin
theorem ziw : fillsNumberSlot (.type "tuple") "mul" = pure false :=
  PySem.fillsNumberSlot_seq (id := "tuple.__mul__") (r := some (.builtin "tuple.__rmul__")) PySem.F.slot_tuple_mul.lookup (by decide +kernel) PySem.F.slot_tuple_rmul.lookup (by decide +kernel)
theorem zix : seqRepeat? (.type "tuple") = pure (some (.builtin "tuple.__mul__")) := by
  unfold seqRepeat?
  rw [PySem.seqSlot_of (T := "tuple") (name := "__mul__") (id := "tuple.__mul__") PySem.F.slot_tuple_mul.lookup (by decide +kernel), PySem.seqSlot_of (T := "tuple") (name := "__rmul__") (id := "tuple.__rmul__") PySem.F.slot_tuple_rmul.lookup (by decide +kernel)]
  rfl
theorem zly (a : Int) (t : Tok) (l : Addr) (its : Array Value) (n : Nat) (dd : Option Addr) (sl : Array (Option Value)) :
    Meets (Builtin.«int.__rmul__» ⟨[.int a t, .ref l], []⟩) (fun _ R s => s.heap.get? l = some { cls := .type "tuple", dict := dd, data := .seq its n, slots := sl } ∧ R (.ok (.ret Value.notImplemented)) s) :=
  .of_wp fun prog w A R s h => by
    rcases s with ⟨hp, g, d, tk, os⟩
    obtain ⟨hl, h⟩ := h
    wp_walk
    exact ⟨_, rfl, h⟩
theorem zlz (l : Addr) (its : Array Value) (n : Nat) (dd : Option Addr) (sl : Array (Option Value)) (u : Tok) (h0 : ¬ (its.isEmpty || (2 : Int) == 1) = true) (h1 : ¬ ((2 : Int) ≤ 0 || its.isEmpty) = true) (h2 : ¬ (its.size * (2 : Int)) > (2 ^ 63 - 1) / 8) (h3 : ¬ Builtin.Tuple.tupleTooMany (its.size * (2 : Int)) = true) (hz : (its ++ its).size ≤ sizeLine) :
    Meets (Builtin.«tuple.__mul__» ⟨[.ref l, .int 2 u], []⟩) (fun _ R s => s.heap.get? l = some { cls := .type "tuple", dict := dd, data := .seq its n, slots := sl } ∧ R (.ok (.ret (Value.ref s.heap.objs.size))) { s with heap := s.heap.push { cls := Value.type "tuple", data := Data.seq (its ++ its) } }) :=
  .of_wp fun prog w A R s h => by
    rcases s with ⟨hp, g, d, tk, os⟩
    obtain ⟨hl, h⟩ := h
    wp_walk
    rw [if_neg h0]
    wp_walk
    rw [if_neg h1]
    dsimp only
    rw [if_neg h2, if_neg h3]
    have e : List.foldl (fun x1 x2 => x1 ++ x2) #[] (List.replicate (Int.toNat 2) its) = its ++ its := by simp [List.replicate]
    rw [e]
    wp_walk
    refine wpAny_ite_false (decide_eq_false (Nat.not_lt.mpr hz)) ?_
    wp_walk
    exact ⟨_, rfl, h⟩
section
variable {X : Cx}
theorem znQ : OpR X (binaryOp .Mult) (VR2 X.K (zao .mulT)) := by
  rintro pins s σ H x y v u Q I rx ry ⟨W, ds, r, wf, hs, hf, q⟩
  obtain ⟨d, e, rfl, h1, h2⟩ := pr2 hs
  replace hf : zk8 [d, e] = some r := hf
  unfold zk8 at hf
  split at hf
  case h_2 => cases hf
  rename_i l k z
  cases z
  split at hf
  case isFalse => cases hf
  rename_i hk
  obtain ⟨hk, hl, hne⟩ := hk
  cases hf
  obtain ⟨p, xs, rfl, hp, rp⟩ := h1.tupH
  cases h2.int
  subst hk
  cases rx
  obtain ⟨t, rfl⟩ := ry
  obtain ⟨its, rv, ht, hz⟩ := I.tuple (SqT.of hp)
  obtain ⟨⟨c1, d1, da1, sl1⟩, ho, hc, n, hd⟩ := id ht
  simp only at hc hd
  subst hc hd
  have l1 := rp.length
  have l2 := rv.length
  have sz : its.toArray.size = l.length := by simp; omega
  have ne : its.toArray.isEmpty = false := by
    cases its with
    | nil => simp at sz; exact absurd (List.length_eq_zero_iff.mp sz.symm) hne
    | cons a b => rfl
  have sl := sizeLine_eq
  refine wpAny_binaryOp_repeat_ref (T := "tuple") (U := "int") (by decide) ⟨_, ho, rfl⟩ (fun s' => typeIs_int s' 2 t) ziw PySem.F.fills_int_mul PySem.F.slot_int_rmul zix PySem.F.slot_int_index.lookup
    (call_meets PySem.F.slot_int_rmul (typeIs_int s 2 t) PySem.F.entry_int_rmul (PySem.F.args_int_rmul_2 _ _) (zly 2 t p its.toArray n d1 sl1)
      ⟨ho, rfl, ⟨_, ho, rfl⟩, call_meets PySem.F.slot_tuple_mul ⟨_, ho, rfl⟩ PySem.F.entry_tuple_mul (PySem.F.args_tuple_mul_2 _ _) (zlz p its.toArray n d1 sl1 t (by rw [ne]; decide) (by rw [ne]; decide) (by rw [sz]; omega) (by unfold Builtin.Tuple.tupleTooMany; rw [sz, sl]; simp; omega) (by simp; omega)) ⟨ho, ?_⟩⟩)
  have ea : its.toArray ++ its.toArray = (its ++ its).toArray := by simp
  rw [ea]
  have ln : (xs ++ xs).length ≤ sizeLine := by rw [List.length_append]; omega
  refine ⟨.ref s.heap.objs.size, _, I.laid (t' := s.toks) (o := .tup (xs ++ xs)) (fun b ob q => Heap.get?_push_of_some _ q) (Nat.le_refl _) ⟨ln, its ++ its, rv.append rv, IsTup.new _ _⟩, rfl, q _ _ (za6 I.fresh _) (zff I.fresh (rp.append rp))⟩
end
end L2.LW
set_option maxHeartbeats 4000000
set_option maxHeartbeats 4000000
set_option maxHeartbeats 4000000
namespace L2.LW
open PySem
section
variable {fn : Nat → List D → Option SV} {fa : Nat → List D → Option Ans} {fuel : Nat} {ρ : Env}
@[simp] theorem ztl {i : Int} : evE fn (.int i) ρ = some (.val (.int i)) := rfl
@[simp] theorem zuL {i : Bool} : evE fn (.bl i) ρ = some (.val (.bl i)) := rfl
@[simp] theorem ztm : evE fn .non ρ = some (.val .non) := rfl
@[simp] theorem ztn {i : Str} : evE fn (.str i) ρ = some (.val (.str i)) := rfl
@[simp] theorem zkg {i : Nat} : evE fn (.var i) ρ = look ρ i := rfl
@[simp] theorem zrd {p : Prim} {es : Es} : evE fn (.prim p es) ρ = (zbV fn es ρ).bind fun rs => zao p (rs.map zby) := rfl
@[simp] theorem zto {es : Es} : evE fn (.tup es) ρ = (zbV fn es ρ).bind fun rs => (zg9 rs).map fun ds => .val (.tup ds) := rfl
@[simp] theorem ztp {es : Es} : evE fn (.lst es) ρ = (zbV fn es ρ).bind fun rs => (zg9 rs).map fun ds => .obj true (.lst ds) := rfl
noncomputable def ztq (r : SV) (k : Option SV) : Option SV := match r with
  | .val (.bl true) => k
  | .val (.bl false) => some (.val (.bl false))
  | _ => none
noncomputable def orV (r : SV) (k : Option SV) : Option SV := match r with
  | .val (.bl true) => some (.val (.bl true))
  | .val (.bl false) => k
  | _ => none
noncomputable def zuM (r : SV) : Option SV := match r with
  | .val (.bl b) => some (.val (.bl (!b)))
  | _ => none
@[simp] theorem ztr {b : Bool} {k : Option SV} : ztq (.val (.bl b)) k = if b then k else some (.val (.bl false)) := by cases b <;> rfl
@[simp] theorem zuN {b : Bool} {k : Option SV} : orV (.val (.bl b)) k = if b then some (.val (.bl true)) else k := by cases b <;> rfl
@[simp] theorem zts {b : Bool} : zuM (.val (.bl b)) = some (.val (.bl (!b))) := rfl
@[simp] theorem ztt {a b : E} : evE fn (.and a b) ρ = (evE fn a ρ).bind fun r => ztq r (evE fn b ρ) := rfl
@[simp] theorem zuO {a b : E} : evE fn (.or a b) ρ = (evE fn a ρ).bind fun r => orV r (evE fn b ρ) := rfl
@[simp] theorem ztu {a : E} : evE fn (.not a) ρ = (evE fn a ρ).bind zuM := rfl
@[simp] theorem zpM {p q : Prim} {a b c : E} : evE fn (.chain p q a b c) ρ = (evE fn a ρ).bind fun x => (evE fn b ρ).bind fun y => (zao p [zby x, zby y]).bind fun z => ztq z ((evE fn c ρ).bind fun w => zao q [zby y, zby w]) := rfl
@[simp] theorem ztv {c a b : E} : evE fn (.ite c a b) ρ = (evT fn c ρ).bind fun k => if k then evE fn a ρ else evE fn b ρ := rfl
@[simp] theorem zre {f : Nat} {es : Es} : evE fn (.call f es) ρ = (zbV fn es ρ).bind fun rs => zdk rs (fn f (rs.map zby)) := rfl
theorem zlA {g : Bool} {src : Es} {cond elt : E} : evE fn (.comp g src cond elt) ρ = (zbV fn src ρ).bind fun rs => (zaN g rs).bind fun ds =>
    if ds.length ≤ line then (zcP (fun d => evT fn cond (some (.val d) :: ρ)) (fun d => evE fn elt (some (.val d) :: ρ)) ds).map fun l => .obj true (.lst l) else none := rfl
@[simp] theorem zrf {t : Bool} : evE fn (.dnew t) ρ = some (.obj true (.dct t [] [])) := rfl
@[simp] theorem zrg {t : Bool} {k v : E} : evE fn (.done t k v) ρ = (evE fn k ρ).bind fun x => (evE fn v ρ).bind fun y => (toD x).bind fun a => (toD y).bind fun b => if zce t a then some (.obj true (.dct t [a] [b])) else none := rfl
@[simp] theorem zh4 : zbV fn .nil ρ = some [] := rfl
@[simp] theorem zgo {e : E} {es : Es} : zbV fn (.cons e es) ρ = (evE fn e ρ).bind fun r => (zbV fn es ρ).map (r :: ·) := rfl
@[simp] theorem ztw {a b : E} : evT fn (.and a b) ρ = (evT fn a ρ).bind fun k => if k then evT fn b ρ else some false := rfl
@[simp] theorem zuP {a b : E} : evT fn (.or a b) ρ = (evT fn a ρ).bind fun k => if k then some true else evT fn b ρ := rfl
@[simp] theorem ztx {a : E} : evT fn (.not a) ρ = (evT fn a ρ).map (!·) := rfl
@[simp] theorem zty {i : Int} : evT fn (.int i) ρ = some (i != 0) := rfl
@[simp] theorem zpN {i : Bool} : evT fn (.bl i) ρ = some i := rfl
@[simp] theorem ztz {i : Nat} : evT fn (.var i) ρ = (look ρ i).bind zbp := rfl
@[simp] theorem zrh {p : Prim} {es : Es} : evT fn (.prim p es) ρ = (zbV fn es ρ).bind fun rs => (zao p (rs.map zby)).bind zbp := rfl
@[simp] theorem zri {f : Nat} {es : Es} : evT fn (.call f es) ρ = (zbV fn es ρ).bind fun rs => (zdk rs (fn f (rs.map zby))).bind zbp := rfl
noncomputable def zuQ (r : SV) (k : Option Bool) : Option Bool := match r with
  | .val (.bl true) => k
  | .val (.bl false) => some false
  | _ => none
@[simp] theorem ztA {b : Bool} {k : Option Bool} : zuQ (.val (.bl b)) k = if b then k else some false := by cases b <;> rfl
@[simp] theorem zpO {p q : Prim} {a b c : E} : evT fn (.chain p q a b c) ρ = (evE fn a ρ).bind fun x => (evE fn b ρ).bind fun y => (zao p [zby x, zby y]).bind fun z => zuQ z ((evE fn c ρ).bind fun w => (zao q [zby y, zby w]).bind zbp) := rfl
@[simp] theorem zrj {e : E} : exS fa fuel (.expr e) ρ = (evE (prj fa) e ρ).map fun _ => (.nx, ρ) := rfl
@[simp] theorem ztB {i : Nat} {e : E} : exS fa fuel (.asg i e) ρ = (evE (prj fa) e ρ).bind fun r => if r.lent || !free ρ i then none else some (.nx, ρ.set i (some r)) := rfl
noncomputable def zbS : Option (Option SV) → Bool
  | some (some (.io _)) => false
  | _ => true
@[simp] theorem zkh {i : Nat} : free ρ i = zbS ρ[i]? := by
  unfold free zbS
  rcases h : ρ[i]? with _ | _ | (d | ⟨o, d⟩ | d) <;> rfl
@[simp] theorem zoo : zbS none = true := rfl
@[simp] theorem zrk : zbS (some none) = true := rfl
@[simp] theorem zcp {d : D} : zbS (some (some (.val d))) = true := rfl
@[simp] theorem zpP {o : Bool} {d : D} : zbS (some (some (.obj o d))) = true := rfl
noncomputable def ztC (ρ : Env) (i j : Nat) : Option (Option SV) → Option (Fl × Env)
  | some (some (.val d)) => some (.nx, ρ.set i (some (.val d)))
  | some (some (.obj _ d)) => some (.nx, (ρ.set j (some (.val d))).set i (some (.val d)))
  | _ => none
@[simp] theorem zrl {i j : Nat} {d : D} : ztC ρ i j (some (some (.val d))) = some (.nx, ρ.set i (some (.val d))) := rfl
@[simp] theorem zrm {i j : Nat} {o : Bool} {d : D} : ztC ρ i j (some (some (.obj o d))) = some (.nx, (ρ.set j (some (.val d))).set i (some (.val d))) := rfl
@[simp] theorem ztD {i j : Nat} : exS fa fuel (.mov i j) ρ = if free ρ i then ztC ρ i j ρ[j]? else none := by
  rw [zpq]
  rcases h : ρ[j]? with _ | _ | (d | ⟨o, d⟩ | d) <;> rfl
noncomputable def zrn (ρ : Env) (j : Nat) : Option (Option SV) → Option (List D × Env)
  | some (some (.val d)) => (zhj d).map fun l => (l, ρ)
  | some (some (.obj _ (.lst ds))) => some (ds, ρ.set j (some (.val (.lst ds))))
  | _ => none
@[simp] theorem zro {j : Nat} {d : D} : zrn ρ j (some (some (.val d))) = (zhj d).map fun l => (l, ρ) := rfl
@[simp] theorem zrp {j : Nat} {o : Bool} {ds : List D} : zrn ρ j (some (some (.obj o (.lst ds)))) = some (ds, ρ.set j (some (.val (.lst ds)))) := rfl
@[simp] theorem zpQ {j : Nat} : zjO ρ j = zrn ρ j ρ[j]? := by
  unfold zjO zrn
  rcases h : ρ[j]? with _ | _ | (d | ⟨o, d⟩ | d) <;> rfl
@[simp] theorem zpR {l : List D} : zhj (.tup l) = some l := rfl
@[simp] theorem zpS {l : List D} : zhj (.lst l) = some l := rfl
noncomputable def zvE (ρ : Env) (i : Nat) (x : SV) (r : Option SV) : Option D → Option (Fl × Env)
  | some (.lst ds) => r.bind fun r => (toD r).bind fun d => if ds.length < line then some (.nx, ρ.set i (some (x.put (.lst (ds ++ [d]))))) else none
  | _ => none
noncomputable def zuR (ρ : Env) (i : Nat) (r : Option SV) : Option (Option SV) → Option (Fl × Env)
  | some (some x) => zvE ρ i x r x.cell
  | _ => none
@[simp] theorem zrq {i : Nat} {r : Option SV} {ds : List D} : zuR ρ i r (some (some (.obj true (.lst ds)))) = r.bind fun r => (toD r).bind fun d => if ds.length < line then some (.nx, ρ.set i (some (.obj true (.lst (ds ++ [d]))))) else none := rfl
@[simp] theorem ztE {i : Nat} {e : E} : exS fa fuel (.app i e) ρ = zuR ρ i (evE (prj fa) e ρ) ρ[i]? := by
  rw [zmC]
  rcases h : ρ[i]? with _ | _ | (d | ⟨_ | _, d⟩ | d)
  · rfl
  · rfl
  · rfl
  · rfl
  · cases d <;> rfl
  · cases d <;> rfl
noncomputable def ztF (ρ : Env) (i : Nat) (x : SV) (rk rv : Option SV) : Option D → Option (Fl × Env)
  | some (.dct t ks vs) => rv.bind fun r => (toD r).bind fun d => rk.bind fun r => (toD r).bind fun a => if zce t a && decide (ks.length < line) then some (.nx, ρ.set i (some (x.put (zol t ks vs a d)))) else none
  | _ => none
noncomputable def znR (ρ : Env) (i : Nat) (rk rv : Option SV) : Option (Option SV) → Option (Fl × Env)
  | some (some x) => ztF ρ i x rk rv x.cell
  | _ => none
@[simp] theorem zpT {i : Nat} {rk rv : Option SV} {t : Bool} {ks vs : List D} : znR ρ i rk rv (some (some (.obj true (.dct t ks vs)))) = rv.bind fun r => (toD r).bind fun d => rk.bind fun r => (toD r).bind fun a => if zce t a && decide (ks.length < line) then some (.nx, ρ.set i (some (.obj true (zol t ks vs a d)))) else none := rfl
@[simp] theorem zrr {i : Nat} {rk rv : Option SV} {t : Bool} {ks vs : List D} : znR ρ i rk rv (some (some (.io (.dct t ks vs)))) = rv.bind fun r => (toD r).bind fun d => rk.bind fun r => (toD r).bind fun a => if zce t a && decide (ks.length < line) then some (.nx, ρ.set i (some (.io (zol t ks vs a d)))) else none := rfl
@[simp] theorem zrs {i : Nat} {k v : E} : exS fa fuel (.dset i k v) ρ = znR ρ i (evE (prj fa) k ρ) (evE (prj fa) v ρ) ρ[i]? := by
  rw [znm]
  rcases h : ρ[i]? with _ | _ | (d | ⟨_ | _, d⟩ | d)
  · rfl
  · rfl
  · rfl
  · rfl
  · cases d <;> rfl
  · cases d <;> rfl
@[simp] theorem zrt {i j k : Nat} {e : E} : exS fa fuel (.unp3 i j k e) ρ = (evE (prj fa) e ρ).bind (zph ρ i j k) := rfl
@[simp] theorem zru {i j : Nat} : exS fa fuel (.dupd i j) ρ = zpg ρ i j := rfl
@[simp] theorem zpU {m : M} : exS fa fuel (.exprM m) ρ = (evM fa m ρ).map fun x => (.nx, x.2) := rfl
@[simp] theorem zrv {i : Nat} {m : M} : exS fa fuel (.asgM i m) ρ = (evM fa m ρ).bind fun x => if x.1.lent || !free x.2 i then none else some (.nx, x.2.set i (some (.val (zby x.1)))) := rfl
@[simp] theorem ztG {c : E} {m : M} {a b : Ss} : exS fa fuel (.ifO c m a b) ρ = (evT (prj fa) c ρ).bind fun k => if k then zbq fa fuel a ρ else (evM fa m ρ).bind fun x => (zbp x.1).bind fun k => if k then zbq fa fuel a x.2 else zbq fa fuel b x.2 := rfl
noncomputable def zmL (ρ : Env) (xs : List AV) : Ans → Option (SV × Env)
  | .ok r outs => if r.fine && outs.all zbU then (zha ρ xs outs).map fun ρ' => (r, ρ') else none
  | .ex _ => none
@[simp] theorem zpV {xs : List AV} {r : SV} {outs : List D} : zmL ρ xs (.ok r outs) = if r.fine && outs.all zbU then (zha ρ xs outs).map fun ρ' => (r, ρ') else none := rfl
@[simp] theorem zrw {f : Nat} {ma : MA} : evM fa (.call f ma) ρ = (zji (prj fa) ma ρ).bind fun xs => (fa f (xs.map zon)).bind (zmL ρ xs) := rfl
noncomputable def zuS (p : Prim) (k : Option (SV × Env)) : SV → Option (SV × Env)
  | .val d => if plain d then k.bind fun y => (zao p [d, zby y.1]).map fun z => (z, y.2) else none
  | _ => none
@[simp] theorem zrx {p : Prim} {k : Option (SV × Env)} {d : D} : zuS p k (.val d) = if plain d then k.bind fun y => (zao p [d, zby y.1]).map fun z => (z, y.2) else none := rfl
@[simp] theorem zuT {p : Prim} {a : E} {m : M} : evM fa (.op p a m) ρ = (evE (prj fa) a ρ).bind (zuS p (evM fa m ρ)) := rfl
@[simp] theorem zry : zji fn .nil ρ = some [] := rfl
@[simp] theorem zuU {c : E} {r : MA} : zji fn (.e c r) ρ = (evE fn c ρ).bind fun x => (zjK x).bind fun a => (zji fn r ρ).map (a :: ·) := rfl
noncomputable def zlB : Option (Option SV) → Option D
  | some (some x) => x.cell
  | _ => none
@[simp] theorem zop {i : Nat} : zd8 ρ i = zlB ρ[i]? := by
  unfold zd8 zlB
  rcases h : ρ[i]? with _ | _ | (d | ⟨_ | _, d⟩ | d) <;> rfl
@[simp] theorem zpW {d : D} : zlB (some (some (.obj true d))) = some d := rfl
@[simp] theorem zrz {d : D} : zlB (some (some (.io d))) = some d := rfl
@[simp] theorem zuV {i : Nat} {r : MA} : zji fn (.s i r) ρ = (zd8 ρ i).bind fun d => if zis d then (zji fn r ρ).map (.s i d :: ·) else none := rfl
@[simp] theorem zuW {t : Bool} {r : MA} : zji fn (.n t r) ρ = (zji fn r ρ).map (.n t :: ·) := rfl
@[simp] theorem zrA : zha ρ [] [] = some ρ := rfl
@[simp] theorem zuX {i : Nat} {d d' : D} {r : List AV} {ds : List D} : zha ρ (.s i d :: r) (d' :: ds) = zha (zq9 ρ i d') r ds := rfl
@[simp] theorem zuY {t : Bool} {d' : D} {r : List AV} {ds : List D} : zha ρ (.n t :: r) (d' :: ds) = zha ρ r ds := rfl
@[simp] theorem zuZ {d : D} {r : List AV} {ds : List D} : zha ρ (.e d :: r) ds = zha ρ r ds := rfl
@[simp] theorem zu0 {d : List D} {r : List AV} {ds : List D} : zha ρ (.l d :: r) ds = zha ρ r ds := rfl
noncomputable def zlC (ρ : Env) (i : Nat) (d : D) : Option (Option SV) → Env
  | some (some x) => ρ.set i (some (x.put d))
  | _ => ρ
@[simp] theorem ztH {i : Nat} {d : D} : zq9 ρ i d = zlC ρ i d ρ[i]? := by
  unfold zq9 zlC
  rcases h : ρ[i]? with _ | _ | (d | ⟨_ | _, d⟩ | d) <;> rfl
@[simp] theorem zpX {i : Nat} {d d0 : D} : zlC ρ i d (some (some (.obj true d0))) = ρ.set i (some (.obj true d)) := rfl
@[simp] theorem zrB {i : Nat} {d d0 : D} : zlC ρ i d (some (some (.io d0))) = ρ.set i (some (.io d)) := rfl
@[simp] theorem zu1 {d : D} : zon (.e d) = d := rfl
@[simp] theorem zu2 {d : List D} : zon (.l d) = .lst d := rfl
@[simp] theorem zu3 {i : Nat} {d : D} : zon (.s i d) = d := rfl
@[simp] theorem zu4 {t : Bool} : zon (.n t) = .dct t [] [] := rfl
@[simp] theorem zrC {l : List D} : zjK (.val (.tup l)) = if plain (.tup l) then some (.e (.tup l)) else none := rfl
@[simp] theorem zrD {i : Int} : zjK (.val (.int i)) = some (.e (.int i)) := by simp [zjK, plain]
@[simp] theorem ztI {i : Bool} : zjK (.val (.bl i)) = some (.e (.bl i)) := by simp [zjK, plain]
@[simp] theorem zrE {l : List D} : zjK (.val (.lst l)) = if zbd l then some (.l l) else none := rfl
@[simp] theorem zrF {o : Bool} {l : List D} : zjK (.obj o (.lst l)) = if zbd l then some (.l l) else none := rfl
@[simp] theorem zpY {t : Bool} {ks vs : List D} : zis (.dct t ks vs) = zbd vs := rfl
@[simp] theorem zoq {t : Bool} {ks vs : List D} : zbU (.dct t ks vs) = zbd vs := rfl
@[simp] theorem zor {vs : List D} : zbU (.lst vs) = zbd vs := rfl
@[simp] theorem zrG {d : D} : SV.fine (.val d) = plain d := rfl
@[simp] theorem zrH {d : D} : SV.fine (.obj true d) = zbU d := rfl
@[simp] theorem ztJ {e : E} : exS fa fuel (.ret e) ρ = (evE (prj fa) e ρ).bind fun r => if r.lent then none else some (.rt r, ρ) := rfl
noncomputable def ztK (ρ : Env) (i : Nat) : Option (Option SV) → Option (Fl × Env)
  | some (some (.val d)) => some (.rt (.val d), ρ)
  | some (some (.obj _ d)) => some (.rt (.obj true d), ρ.set i none)
  | _ => none
@[simp] theorem zrI {i : Nat} {d : D} : ztK ρ i (some (some (.val d))) = some (.rt (.val d), ρ) := rfl
@[simp] theorem zrJ {i : Nat} {o : Bool} {d : D} : ztK ρ i (some (some (.obj o d))) = some (.rt (.obj true d), ρ.set i none) := rfl
@[simp] theorem zrK {i : Nat} : exS fa fuel (.retV i) ρ = ztK ρ i ρ[i]? := by
  rw [zjS]
  rcases h : ρ[i]? with _ | _ | (d | ⟨o, d⟩ | d) <;> rfl
@[simp] theorem zrL : exS fa fuel .retN ρ = some (.rt (.val .non), ρ) := rfl
@[simp] theorem ztL {c : E} {a b : Ss} : exS fa fuel (.ifs c a b) ρ = (evT (prj fa) c ρ).bind fun k => if k then zbq fa fuel a ρ else zbq fa fuel b ρ := rfl
theorem zht {i : Nat} {g : Bool} {src : Es} {body : Ss} : exS fa fuel (.for_ i g src body) ρ = (zbV (prj fa) src ρ).bind fun rs => if rs.any SV.lent || !free ρ i then none else (zaN g rs).bind fun ds => zhb i (zbq fa fuel body) ds ρ := rfl
noncomputable def zlD (ρ : Env) (j : Nat) : Option (Option SV) → Env
  | some (some (.obj true d)) => ρ.set j (some (.val d))
  | _ => ρ
@[simp] theorem ztM {j : Nat} : zra ρ j = zlD ρ j ρ[j]? := by
  unfold zra zlD
  rcases h : ρ[j]? with _ | _ | (d | ⟨_ | _, d⟩ | d) <;> rfl
@[simp] theorem zpZ {j : Nat} {d : D} : zlD ρ j (some (some (.val d))) = ρ := rfl
@[simp] theorem zp0 {j : Nat} {d : D} : zlD ρ j (some (some (.obj true d))) = ρ.set j (some (.val d)) := rfl
@[simp] theorem ztN {js : List Nat} {s : S} : exS fa fuel (.frz js s) ρ = exS fa fuel s (js.foldl zra ρ) := rfl
@[simp] theorem ztO : exS fa fuel .brk ρ = some (.br, ρ) := rfl
@[simp] theorem ztP : exS fa fuel .cnt ρ = some (.ct, ρ) := rfl
@[simp] theorem zrM : exS fa fuel .pass ρ = some (.nx, ρ) := rfl
@[simp] theorem zrN : exS fa fuel .stop ρ = none := rfl
@[simp] theorem zrO : zbq fa fuel .nil ρ = some (.nx, ρ) := rfl
noncomputable def andThen (x : Fl × Env) (k : Env → Option (Fl × Env)) : Option (Fl × Env) := match x.1 with
  | .nx => k x.2
  | _ => some x
@[simp] theorem zos {ρ : Env} {k : Env → Option (Fl × Env)} : andThen (.nx, ρ) k = k ρ := rfl
@[simp] theorem zot {ρ : Env} {k : Env → Option (Fl × Env)} : andThen (.br, ρ) k = some (.br, ρ) := rfl
@[simp] theorem zou {ρ : Env} {k : Env → Option (Fl × Env)} : andThen (.ct, ρ) k = some (.ct, ρ) := rfl
@[simp] theorem zov {ρ : Env} {r : SV} {k : Env → Option (Fl × Env)} : andThen (.rt r, ρ) k = some (.rt r, ρ) := rfl
@[simp] theorem zki {s : S} {ss : Ss} : zbq fa fuel (.cons s ss) ρ = (exS fa fuel s ρ).bind fun x => andThen x (zbq fa fuel ss) := by
  exact id rfl
noncomputable def zfs : Option (Fl × Env) → Option SV
  | some (.rt r, _) => some r
  | some (.nx, _) => some (.val .non)
  | _ => none
@[simp] theorem zrP {r : SV} {ρ : Env} : zfs (some (.rt r, ρ)) = some r := rfl
@[simp] theorem zrQ {ρ : Env} : zfs (some (.nx, ρ)) = some (.val .non) := rfl
@[simp] theorem zow : zfs none = none := rfl
@[simp] theorem zp1 {c : Prop} [Decidable c] {a b : Option (Fl × Env)} : zfs (if c then a else b) = if c then zfs a else zfs b := by split <;> rfl
end
noncomputable def ziy : Option (Option SV) → Option SV
  | some (some (.val d)) => some (.val d)
  | some (some (.obj _ d)) => some (.obj false d)
  | some (some (.io d)) => some (.obj false d)
  | _ => none
@[simp] theorem ztQ {ρ : Env} {i : Nat} : look ρ i = ziy ρ[i]? := by
  unfold look ziy
  rcases h : ρ[i]? with _ | _ | (d | ⟨o, d⟩ | d) <;> rfl
@[simp] theorem zp2 {d : D} : ziy (some (some (.val d))) = some (.val d) := rfl
@[simp] theorem zp3 {o : Bool} {d : D} : ziy (some (some (.obj o d))) = some (.obj false d) := rfl
@[simp] theorem zrR {d : D} : ziy (some (some (.io d))) = some (.obj false d) := rfl
@[simp] theorem zox : ziy (some none) = none := rfl
@[simp] theorem zlE {d : D} : zby (.val d) = d := rfl
@[simp] theorem zh5 {o : Bool} {d : D} : zby (.obj o d) = d := rfl
@[simp] theorem ztR {d : D} : toD (.val d) = some d := rfl
@[simp] theorem ztS {d : D} : toD (.obj true d) = some d := rfl
@[simp] theorem zrS : zg9 [] = some [] := rfl
@[simp] theorem zp4 {r : SV} {rs : List SV} : zg9 (r :: rs) = (toD r).bind fun d => (zg9 rs).map (d :: ·) := rfl
@[simp] theorem zrT {d : D} : SV.lent (.val d) = false := rfl
@[simp] theorem zrU {d : D} : SV.lent (.obj true d) = false := rfl
@[simp] theorem zrV {d : D} : SV.lent (.obj false d) = true := rfl
@[simp] theorem zrW {i : Int} : zbR i = some (.val (.int i)) := rfl
@[simp] theorem ztT {i : Bool} : zd7 i = some (.val (.bl i)) := rfl
@[simp] theorem zrX {b : Bool} : zbp (.val (.bl b)) = some b := rfl
@[simp] theorem zp5 {i : Int} : zbp (.val (.int i)) = some (i != 0) := rfl
@[simp] theorem zp6 : zbp (.val .non) = some false := rfl
@[simp] theorem zp7 {l : List D} : zbp (.val (.tup l)) = some (!l.isEmpty) := rfl
@[simp] theorem zp8 {l : List D} : zbp (.val (.lst l)) = some (!l.isEmpty) := rfl
@[simp] theorem zp9 {o : Bool} {l : List D} : zbp (.obj o (.lst l)) = some (!l.isEmpty) := rfl
theorem zkj {rs : List SV} {r : Option SV} (h : rs.any SV.lent = false) : zdk rs r = r := by
  unfold zdk; rw [h]; cases r <;> rfl
theorem zhu {rs : List SV} {x : SV} (h : x.plain = true) : zdk rs (some x) = some x := by
  unfold zdk; simp [h]
@[simp] theorem zmM {rs : List SV} {x : Option SV} (h : rs.any SV.lent = false) : zdk rs x = x := zkj h
@[simp] theorem zrY {rs : List SV} {x : SV} (h : x.plain = true) : zdk rs (some x) = some x := zhu h
@[simp] theorem zoy {d : D} : SV.plain (.val d) = plain d := rfl
@[simp] theorem zoz {o : Bool} {d : D} : SV.plain (.obj o d) = zbU d := rfl
@[simp] theorem zqa {i : Int} : plain (.int i) = true := by simp [plain]
@[simp] theorem zrZ {i : Bool} : plain (.bl i) = true := by simp [plain]
@[simp] theorem zqb : plain .non = true := by simp [plain]
@[simp] theorem zqc {i : Str} : plain (.str i) = true := by simp [plain]
@[simp] theorem zqd {l : List D} : plain (.tup l) = zbd l := rfl
@[simp] theorem zqe {l : List D} : plain (.lst l) = false := rfl
@[simp] theorem zqf {t : Bool} {a b : List D} : plain (.dct t a b) = false := rfl
@[simp] theorem zoA : zbd [] = true := rfl
@[simp] theorem znS {x : D} {xs : List D} : zbd (x :: xs) = (plain x && zbd xs) := rfl
@[simp] theorem zqg {P : Nat → Option Fn} {fuel n : Nat} : prj (zah P fuel n) = zbl P fuel n := rfl
theorem zej : ∀ (k : Nat) (ds : List D), zcH [] k ds = ds.map fun d => some (.val d)
  | _, [] => rfl
  | k, d :: r => by simp [zcH, zej (k + 1) r]
theorem znT (x : Option (Fl × Env)) : (match znj [] x with | some (.ok r []) => some r | _ => none) = zfs x := by
  rcases x with _ | ⟨_ | _ | _ | r, ρ⟩ <;> rfl
theorem ziz {P : Nat → Option Fn} {fuel n i : Nat} {F : Fn} {ds : List D} (h : P i = some F) (hl : ds.length = F.np) (hio : F.io = []) (hx : F.xb = none := by rfl) :
    zbl P fuel (n + 1) i ds = zfs (zbq (zah P fuel n) fuel F.body (ds.map (fun d => some (.val d)) ++ List.replicate (F.nl - F.np) none)) := by
  unfold zbl prj
  rw [zah, h]
  simp only [Option.bind_some, if_pos hl, hio, zej, hx]
  exact znT _
@[simp] theorem zvF {a b : Int} : zao .add [.int a, .int b] = some (.val (.int (a + b))) := rfl
theorem zqh {a b : List D} (h : a.length + b.length ≤ line) : zao .add [.lst a, .lst b] = some (.obj true (.lst (a ++ b))) := by simp only [zao, zq5, if_pos h]
@[simp] theorem zvG {a b : Int} : zao .sub [.int a, .int b] = some (.val (.int (a - b))) := rfl
theorem zqi {a b : Int} (h : -(2 ^ 64) < b ∧ b < 2 ^ 64) : zao .mul [.int a, .int b] = some (.val (.int (a * b))) := by simp only [zao, zq6, if_pos (Or.inr h : (-(2 ^ 64) < a ∧ a < 2 ^ 64) ∨ _), zbR]
theorem zqj {a b : Int} (h : 0 < b ∧ b < 1073741824) : zao .fdiv [.int a, .int b] = some (.val (.int (a / b))) := by simp only [zao, zk7, if_pos h, zbR]
theorem zhv {a b : Int} (h : 0 < b) : zao .mod [.int a, .int b] = some (.val (.int (a % b))) := by simp only [zao, zq7, if_pos h, zbR]
@[simp] theorem zvH {a : Int} : zao .neg [.int a] = some (.val (.int (-a))) := rfl
theorem ztU {a b : D} (h : zbz 8 a = true) (h' : zbz 8 b = true) : zao .eq [a, b] = some (.val (.bl (eqD a b))) := by simp [zao, pEq, h, h']
theorem zu5 {a b : D} (h : zbz 8 a = true) (h' : zbz 8 b = true) : zao .ne [a, b] = some (.val (.bl (!eqD a b))) := by simp [zao, pNe, h, h']
@[simp] theorem zvI {a b : Int} : zao .eq [.int a, .int b] = some (.val (.bl (a == b))) := by rw [ztU rfl rfl, eqD]
@[simp] theorem zvJ {a b : Int} : zao .ne [.int a, .int b] = some (.val (.bl (a != b))) := by rw [zu5 rfl rfl, eqD]; rfl
@[simp] theorem zwd {a b : Int} : zao .lt [.int a, .int b] = some (.val (.bl (decide (a < b)))) := rfl
@[simp] theorem zwe {a b : Int} : zao .le [.int a, .int b] = some (.val (.bl (decide (a ≤ b)))) := rfl
@[simp] theorem zwf {a b : Int} : zao .gt [.int a, .int b] = some (.val (.bl (decide (b < a)))) := rfl
@[simp] theorem zwg {a b : Int} : zao .ge [.int a, .int b] = some (.val (.bl (decide (b ≤ a)))) := rfl
@[simp] theorem zvK {d : D} : zao .isN [d] = some (.val (.bl (zgi d))) := rfl
@[simp] theorem zu6 {d : D} : zao .notN [d] = some (.val (.bl (!zgi d))) := rfl
@[simp] theorem zu7 {l : List D} : zao .len [.tup l] = some (.val (.int l.length)) := rfl
@[simp] theorem zu8 {l : List D} : zao .len [.lst l] = some (.val (.int l.length)) := rfl
@[simp] theorem zvL {i : Int} : zao .abs [.int i] = some (.val (.int (if i < 0 then -i else i))) := rfl
@[simp] theorem zu9 {i j : Int} : zao .min2 [.int i, .int j] = some (.val (.int (if j < i then j else i))) := rfl
@[simp] theorem zva {i j : Int} : zao .max2 [.int i, .int j] = some (.val (.int (if j > i then j else i))) := rfl
@[simp] theorem zr0 {b : Bool} : zao .intOf [.bl b] = some (.val (.int (if b then 1 else 0))) := rfl
@[simp] theorem zr1 {b : Int} : zao .intOf [.int b] = some (.val (.int b)) := rfl
@[simp] theorem zqk {l : List D} : zao .toList [.tup l] = some (.obj true (.lst l)) := rfl
@[simp] theorem zql {l : List D} : zao .toList [.lst l] = some (.obj true (.lst l)) := rfl
@[simp] theorem zr2 {l : List D} : zao .toTup [.tup l] = some (.val (.tup l)) := rfl
@[simp] theorem zr3 {l : List D} : zao .toTup [.lst l] = some (.val (.tup l)) := rfl
@[simp] theorem zvb {t : Ty} {d : D} : zao (.inst t) [d] = some (.val (.bl (zcd t d))) := rfl
theorem zkk {l : List D} {i : Int} : zao .idx [.tup l, .int i] = (atI l i).map .val := rfl
theorem zmN {l : List D} {i : Int} : zao .idx [.lst l, .int i] = (atI l i).map .val := rfl
theorem atI_nat {α : Type} {l : List α} {k : Nat} (h : k < l.length) : atI l (k : Int) = some l[k] := by
  unfold atI ixN
  rw [if_pos (by omega), if_pos (by omega)]
  simp [h]
@[simp] theorem zr4 {a b : D} : zao .idx [.tup [a, b], .int 0] = some (.val a) := rfl
@[simp] theorem zr5 {a b : D} : zao .idx [.tup [a, b], .int 1] = some (.val b) := rfl
@[simp] theorem zr6 {b : Bool} : zcd .bool (.bl b) = true := rfl
@[simp] theorem zr7 {b : Int} : zcd .bool (.int b) = false := rfl
@[simp] theorem zr8 {b : Int} : zcd .int (.int b) = true := rfl
@[simp] theorem zr9 {l : List D} : zcd .tuple (.tup l) = true := rfl
@[simp] theorem zsa {l : List D} : zcd .list (.lst l) = true := rfl
@[simp] theorem zqm : zgi .non = true := rfl
@[simp] theorem zqn {i : Int} : zgi (.int i) = false := rfl
@[simp] theorem zqo {l : List D} : zgi (.tup l) = false := rfl
@[simp] theorem zqp {l : List D} : zgi (.lst l) = false := rfl
theorem zgp {α : Type} {f : α → D} {test : D → Option Bool} {elt : D → Option SV} {t : α → Bool} {e : α → D} : ∀ {xs : List α}, (∀ x ∈ xs, test (f x) = some (t x)) → (∀ x ∈ xs, t x = true → (elt (f x)).bind toD = some (e x)) →
    zcP test elt (xs.map f) = some ((xs.filter t).map e)
  | [], _, _ => rfl
  | d :: r, h1, h2 => by
    have ih := zgp (xs := r) (fun x hx => h1 x (List.mem_cons_of_mem _ hx)) (fun x hx => h2 x (List.mem_cons_of_mem _ hx))
    rw [List.map_cons, zcP, h1 d List.mem_cons_self]
    simp only [Option.bind_some]
    cases ht : t d with
    | false => simp [ih, ht]
    | true =>
      have h3 := h2 d List.mem_cons_self ht
      rw [jo1] at h3
      obtain ⟨x, e1, e2⟩ := h3
      simp [ih, ht, e1, e2]
theorem zgq {fn : Nat → List D → Option SV} {ρ : Env} {g : Bool} {src : Es} {cond elt : E} {rs : List SV} {α : Type} {f : α → D} {xs : List α} (t : α → Bool) (e : α → D) (h : zbV fn src ρ = some rs) (hi : zaN g rs = some (xs.map f)) (hl : xs.length ≤ line)
    (ht : ∀ x ∈ xs, evT fn cond (some (.val (f x)) :: ρ) = some (t x)) (he : ∀ x ∈ xs, t x = true → (evE fn elt (some (.val (f x)) :: ρ)).bind toD = some (e x)) :
    evE fn (.comp g src cond elt) ρ = some (.obj true (.lst ((xs.filter t).map e))) := by
  rw [zlA, h]
  simp only [Option.bind_some, hi, List.length_map, if_pos hl]
  rw [zgp ht he]; rfl
theorem zcz {fn : Nat → List D → Option SV} {ρ : Env} {g : Bool} {src : Es} {elt : E} {rs : List SV} {α : Type} {f : α → D} {xs : List α} (e : α → D) (h : zbV fn src ρ = some rs) (hi : zaN g rs = some (xs.map f)) (hl : xs.length ≤ line)
    (he : ∀ x ∈ xs, (evE fn elt (some (.val (f x)) :: ρ)).bind toD = some (e x)) :
    evE fn (.comp g src (.bl true) elt) ρ = some (.obj true (.lst (xs.map e))) := by
  have := zgq (fun _ => true) e h hi hl (fun _ _ => zpN) (fun x hx _ => he x hx)
  have e2 : xs.filter (fun _ => true) = xs := List.filter_eq_self.mpr fun _ _ => rfl
  rwa [e2] at this
theorem zh6 {i : Nat} {body : Env → Option (Fl × Env)} (I : List D → Env → Prop) {ds : List D} : ∀ {post pre : List D} {ρ : Env}, ds = pre ++ post → I pre ρ →
    (∀ pre d post ρ, ds = pre ++ d :: post → I pre ρ → ∃ fl ρ', body (ρ.set i (some (.val d))) = some (fl, ρ') ∧ (fl = .nx ∨ fl = .ct) ∧ I (pre ++ [d]) ρ') →
    ∃ ρ', zhb i body post ρ = some (.nx, ρ') ∧ I ds ρ'
  | [], pre, ρ, e, h, _ => ⟨ρ, rfl, by rw [e]; simpa using h⟩
  | d :: post, pre, ρ, e, h, st => by
    obtain ⟨fl, ρ1, e1, e2, h1⟩ := st pre d post ρ e h
    obtain ⟨ρ', e3, h3⟩ := zh6 I (ds := ds) (post := post) (pre := pre ++ [d]) (ρ := ρ1) (by simp [e]) h1 st
    refine ⟨ρ', ?_, h3⟩
    rw [zhb, e1]
    simp only [Option.bind_some]
    rcases e2 with rfl | rfl <;> exact e3
theorem zlF {i : Nat} {body : Env → Option (Fl × Env)} (I : Nat → Env → Prop) {ds : List D} {ρ : Env} (h0 : I 0 ρ)
    (st : ∀ k ρ (hk : k < ds.length), I k ρ → ∃ fl ρ', body (ρ.set i (some (.val ds[k]))) = some (fl, ρ') ∧ (fl = .nx ∨ fl = .ct) ∧ I (k + 1) ρ') :
    ∃ ρ', zhb i body ds ρ = some (.nx, ρ') ∧ I ds.length ρ' := by
  refine zh6 (fun pre ρ => I pre.length ρ) (ds := ds) (post := ds) (pre := []) rfl h0 fun pre d post ρ e h => ?_
  subst e
  have hk : pre.length < (pre ++ d :: post).length := by simp
  obtain ⟨fl, ρ', h1, h2, h3⟩ := st pre.length ρ hk h
  refine ⟨fl, ρ', ?_, h2, by simpa using h3⟩
  rw [← h1]; simp
theorem zlG {i : Nat} {body : Env → Option (Fl × Env)} {α : Type} {f : α → D} {xs : List α} (I : Nat → Env → Prop) {ρ : Env} (h0 : I 0 ρ)
    (st : ∀ k ρ (hk : k < xs.length), I k ρ → ∃ fl ρ', body (ρ.set i (some (.val (f xs[k])))) = some (fl, ρ') ∧ (fl = .nx ∨ fl = .ct) ∧ I (k + 1) ρ') :
    ∃ ρ', zhb i body (xs.map f) ρ = some (.nx, ρ') ∧ I xs.length ρ' := by
  have := zlF (i := i) (body := body) I (ds := xs.map f) (ρ := ρ) h0 fun k ρ hk h => by
    obtain ⟨fl, ρ', h1, h2⟩ := st k ρ (by simpa using hk) h
    exact ⟨fl, ρ', by rw [List.getElem_map]; exact h1, h2⟩
  simpa using this
theorem zft {i : Nat} {body : Env → Option (Fl × Env)} (I : Nat → Env → Prop) {a : Int} {m : Nat} {ρ : Env} (h0 : I 0 ρ)
    (st : ∀ k ρ, k < m → I k ρ → ∃ fl ρ', body (ρ.set i (some (.val (.int (a + (k : Int)))))) = some (fl, ρ') ∧ (fl = .nx ∨ fl = .ct) ∧ I (k + 1) ρ') :
    ∃ ρ', zhb i body ((List.range m).map fun (k : Nat) => D.int (a + (k : Int))) ρ = some (.nx, ρ') ∧ I m ρ' := by
  have := zlG (i := i) (body := body) (f := fun (k : Nat) => D.int (a + (k : Int))) (xs := List.range m) I (ρ := ρ) h0 fun k ρ hk h => by
    obtain ⟨fl, ρ', h1, h2⟩ := st k ρ (by simpa using hk) h
    exact ⟨fl, ρ', by rw [List.getElem_range]; exact h1, h2⟩
  simpa using this
section
variable {fa : Nat → List D → Option Ans} {fuel : Nat} {ρ : Env}
noncomputable def zlH (k : Env → Option (FlX × Env)) : FlX × Env → Option (FlX × Env)
  | (.fl .nx, ρ) => k ρ
  | x => some x
@[simp] theorem zsb {k : Env → Option (FlX × Env)} : zlH k (.fl .nx, ρ) = k ρ := rfl
@[simp] theorem zsc {k : Env → Option (FlX × Env)} {r : SV} : zlH k (.fl (.rt r), ρ) = some (.fl (.rt r), ρ) := rfl
@[simp] theorem zsd {k : Env → Option (FlX × Env)} {c : Nat} : zlH k (.ex c, ρ) = some (.ex c, ρ) := rfl
@[simp] theorem zse : zbr fa fuel .nil ρ = some (.fl .nx, ρ) := by rw [zbr]
@[simp] theorem zqq {t : T} {ts : Ts} : zbr fa fuel (.cons t ts) ρ = (exT fa fuel t ρ).bind (zlH (zbr fa fuel ts)) := by
  rw [zbr]
  congr 1
  funext x
  rcases x with ⟨⟨_ | _ | _ | _⟩ | _, _⟩ <;> rfl
@[simp] theorem zvc {s : S} : exT fa fuel (.pl s) ρ = (exS fa fuel s ρ).map fun x => (.fl x.1, x.2) := by rw [exT]
@[simp] theorem zqr {c : Nat} : exT fa fuel (.raise c) ρ = some (.ex c, ρ) := by rw [exT]
@[simp] theorem zqs : exT fa fuel .stuck ρ = none := by rw [exT]
@[simp] theorem ztV {c : E} {a b : Ts} : exT fa fuel (.ifs c a b) ρ = (evT (prj fa) c ρ).bind fun k => if k then zbr fa fuel a ρ else zbr fa fuel b ρ := by rw [exT]
noncomputable def zkl (ρ : Env) : Ans → Option (FlX × Env)
  | .ok _ [] => some (.fl .nx, ρ)
  | .ex c => some (.ex c, ρ)
  | _ => none
@[simp] theorem zqt {r : SV} : zkl ρ (.ok r []) = some (.fl .nx, ρ) := rfl
@[simp] theorem zqu {c : Nat} : zkl ρ (.ex c) = some (.ex c, ρ) := rfl
@[simp] theorem zqv {i : Nat} {es : Es} : exT fa fuel (.callX i es) ρ = (zjP fa i es ρ).bind (zkl ρ) := by rw [exT]; rfl
noncomputable def znU (ρ : Env) : Ans → Option (FlX × Env)
  | .ok r [] => if r.lent then none else some (.fl (.rt r), ρ)
  | .ex c => some (.ex c, ρ)
  | _ => none
@[simp] theorem zsf {r : SV} : znU ρ (.ok r []) = if r.lent then none else some (.fl (.rt r), ρ) := rfl
@[simp] theorem zsg {c : Nat} : znU ρ (.ex c) = some (.ex c, ρ) := rfl
@[simp] theorem zsh {i : Nat} {es : Es} : exT fa fuel (.retX i es) ρ = (zjP fa i es ρ).bind (znU ρ) := by rw [exT]; rfl
noncomputable def zqw (k : Nat) (ρ : Env) : Ans → Option (FlX × Env)
  | .ok r [] => if r.lent || !free ρ k then none else some (.fl .nx, ρ.set k (some r))
  | .ex c => some (.ex c, ρ)
  | _ => none
@[simp] theorem zsi {k c : Nat} : zqw k ρ (.ex c) = some (.ex c, ρ) := rfl
@[simp] theorem zsj {k i : Nat} {es : Es} : exT fa fuel (.asgX k i es) ρ = (zjP fa i es ρ).bind (zqw k ρ) := by rw [exT]; rfl
noncomputable def zvd (neg : Bool) (a b : Option (FlX × Env)) (ρ : Env) : Ans → Option (FlX × Env)
  | .ok (.val (.bl k)) [] => if k != neg then a else b
  | .ex c => some (.ex c, ρ)
  | _ => none
@[simp] theorem ztW {neg : Bool} {a b : Option (FlX × Env)} {c : Nat} : zvd neg a b ρ (.ex c) = some (.ex c, ρ) := rfl
@[simp] theorem ztX {neg : Bool} {i : Nat} {es : Es} {a b : Ts} : exT fa fuel (.ifX neg i es a b) ρ = (zjP fa i es ρ).bind (zvd neg (zbr fa fuel a ρ) (zbr fa fuel b ρ) ρ) := by rw [exT]; rfl
noncomputable def znV (cs : List Nat) (h : Hd) : FlX × Env → Option (FlX × Env)
  | (.ex c, ρ) => if cs.contains c then hdX c ρ h else none
  | x => some x
@[simp] theorem zsk {cs : List Nat} {h : Hd} {f : Fl} : znV cs h (.fl f, ρ) = some (.fl f, ρ) := rfl
@[simp] theorem zsl {cs : List Nat} {h : Hd} {c : Nat} : znV cs h (.ex c, ρ) = if cs.contains c then hdX c ρ h else none := rfl
@[simp] theorem zsm {b : Ts} {k : Nat} {cs : List Nat} {h : Hd} : exT fa fuel (.tryX b k cs h) ρ = (zbr fa fuel b ρ).bind (znV cs h) := by
  rw [exT]
  congr 1
  funext x
  rcases x with ⟨_ | _, _⟩ <;> rfl
@[simp] theorem ztY {i : Nat} {es : Es} : zjP fa i es ρ = (zbV (prj fa) es ρ).bind fun rs => if rs.any SV.lent then none else fa i (rs.map zby) := rfl
@[simp] theorem ztZ {r : SV} : zla (some (.fl (.rt r), ρ)) = some (.ok r []) := rfl
@[simp] theorem zt0 : zla (some (.fl .nx, ρ)) = some (.ok (.val .non) []) := rfl
@[simp] theorem zt1 {c : Nat} : zla (some (.ex c, ρ)) = some (.ex c) := rfl
theorem zaF {P : Nat → Option Fn} {n i : Nat} {F : Fn} {t : Ts} {ds : List D} (h : P i = some F) (hl : ds.length = F.np) (hx : F.xb = some t) :
    zah P fuel (n + 1) i ds = zla (zbr (zah P fuel n) fuel t (ds.map (fun d => some (.val d)) ++ List.replicate (F.nl - F.np) none)) := by
  rw [zah, h]
  simp only [Option.bind_some, if_pos hl, hx, zej]
theorem zlI {P : Nat → Option Fn} {n i : Nat} {ds : List D} {r : SV} (h : zah P fuel n i ds = some (.ok r [])) : zbl P fuel n i ds = some r := by
  unfold zbl prj; rw [h]
end
end L2.LW
namespace LK
open L2.LW
noncomputable def ir0 : Ss := (.cons (.ifs (.or (.prim (.inst .bool) (.cons (.var 0) .nil)) (.not (.prim (.inst .int) (.cons (.var 0) .nil)))) (.cons (.ret (.bl false))
    .nil) .nil)
    (.cons (.ret (.chain .le .le (.var 1) (.var 0) (.var 2)))
    .nil))
noncomputable def ir1 : Ss := (.cons (.ret (.and (.prim (.inst .tuple) (.cons (.var 0) .nil)) (.prim .eq (.cons (.prim .len (.cons (.var 0) .nil)) (.cons (.int 2) .nil)))))
    .nil)
noncomputable def ir2 : Ss := (.cons (.ret (.and (.call 1 (.cons (.var 0) .nil)) (.and (.call 0 (.cons (.prim .idx (.cons (.var 0) (.cons (.int 0) .nil))) (.cons (.int 0) (.cons (.int 7) .nil)))) (.call 0 (.cons (.prim .idx (.cons (.var 0) (.cons (.int 1) .nil))) (.cons (.int 0) (.cons (.int 7) .nil)))))))
    .nil)
noncomputable def ir3 : Ss := (.cons (.ret (.and (.call 1 (.cons (.var 0) .nil)) (.and (.call 0 (.cons (.prim .idx (.cons (.var 0) (.cons (.int 1) .nil))) (.cons (.int 1) (.cons (.int 4) .nil)))) (.call 0 (.cons (.prim .idx (.cons (.var 0) (.cons (.int 0) .nil))) (.cons (.int 0) (.cons (.prim .idx (.cons (.var 0) (.cons (.int 1) .nil))) .nil)))))))
    .nil)
noncomputable def ir4 : Ss := (.cons (.ret (.prim .all (.cons (.comp true (.cons (.int 1) (.cons (.prim .len (.cons (.var 0) .nil)) .nil)) (.bl true) (.prim .lt (.cons (.prim .idx (.cons (.var 1) (.cons (.prim .sub (.cons (.var 0) (.cons (.int 1) .nil))) .nil))) (.cons (.prim .idx (.cons (.var 1) (.cons (.var 0) .nil))) .nil)))) .nil)))
    .nil)
noncomputable def ir5 : Ss := (.cons (.ifs (.or (.not (.prim (.inst .tuple) (.cons (.var 0) .nil))) (.not (.chain .le .le (.int 1) (.prim .len (.cons (.var 0) .nil)) (.int 24)))) (.cons (.ret (.bl false))
    .nil) .nil)
    (.cons (.ret (.and (.prim .all (.cons (.comp false (.cons (.var 0) .nil) (.bl true) (.call 2 (.cons (.var 0) .nil))) .nil)) (.call 4 (.cons (.var 0) .nil))))
    .nil))
noncomputable def ir6 : Ss := (.cons (.ifs (.not (.call 5 (.cons (.var 0) .nil))) (.cons .stop
    .nil) .nil)
    (.cons (.retV 0)
    .nil))
noncomputable def zqx : Ss := (.cons (.ifs (.prim .lt (.cons (.var 1) (.cons (.prim .len (.cons (.var 0) .nil)) .nil))) (.cons (.ret (.prim .idx (.cons (.var 0) (.cons (.var 1) .nil))))
    .nil) .nil)
    (.cons (.ret (.int 0))
    .nil))
noncomputable def zqy : Ss := (.cons (.ret (.prim .mod (.cons (.prim .mod (.cons (.prim .mul (.cons (.var 0) (.cons (.int 48271) .nil))) (.cons (.var 1) .nil))) (.cons (.var 2) .nil))))
    .nil)
noncomputable def zh7 : Ss := (.cons (.asg 12 (.prim .add (.cons (.prim .add (.cons (.call 13 (.cons (.var 0) (.cons (.prim .add (.cons (.prim .add (.cons (.var 1) (.cons (.int 2) .nil))) (.cons (.prim .mod (.cons (.prim .add (.cons (.var 10) (.cons (.prim .mul (.cons (.int 2) (.cons (.var 11) .nil))) .nil))) (.cons (.int 7) .nil))) .nil))) .nil))) (.cons (.prim .mul (.cons (.prim .mul (.cons (.int 31) (.cons (.var 10) .nil))) (.cons (.var 10) .nil))) .nil))) (.cons (.prim .mul (.cons (.prim .mul (.cons (.int 57) (.cons (.var 11) .nil))) (.cons (.var 11) .nil))) .nil))))
    (.cons (.ifs (.or (.prim .eq (.cons (.var 8) (.cons (.int 0) .nil))) (.prim .gt (.cons (.call 14 (.cons (.var 12) (.cons (.int 9931) (.cons (.prim .idx (.cons (.lst (.cons (.int 2) (.cons (.int 4) (.cons (.int 7) .nil)))) (.cons (.prim .sub (.cons (.var 8) (.cons (.int 1) .nil))) .nil))) .nil)))) (.cons (.int 0) .nil)))) (.cons (.app 9 (.tup (.cons (.prim .add (.cons (.var 6) (.cons (.var 10) .nil))) (.cons (.prim .add (.cons (.var 7) (.cons (.var 11) .nil))) .nil))))
    .nil) .nil)
    .nil))
noncomputable def zgr : Ss := (.cons (.for_ 11 true (.cons (.var 5) .nil) zh7)
    .nil)
noncomputable def zqz : Ss := (.cons (.asg 3 (.call 13 (.cons (.var 0) (.cons (.var 1) .nil))))
    (.cons (.asg 4 (.prim .add (.cons (.int 1) (.cons (.call 14 (.cons (.var 3) (.cons (.int 9973) (.cons (.int 5) .nil)))) .nil))))
    (.cons (.asg 5 (.prim .add (.cons (.int 1) (.cons (.call 14 (.cons (.var 3) (.cons (.int 9967) (.cons (.int 6) .nil)))) .nil))))
    (.cons (.asg 6 (.call 14 (.cons (.call 13 (.cons (.var 0) (.cons (.prim .add (.cons (.var 1) (.cons (.int 1) .nil))) .nil))) (.cons (.int 9949) (.cons (.prim .sub (.cons (.int 9) (.cons (.var 4) .nil))) .nil)))))
    (.cons (.asg 7 (.call 14 (.cons (.call 13 (.cons (.var 0) (.cons (.prim .add (.cons (.var 1) (.cons (.int 1) .nil))) .nil))) (.cons (.int 9941) (.cons (.prim .sub (.cons (.int 9) (.cons (.var 5) .nil))) .nil)))))
    (.cons (.asg 8 (.call 14 (.cons (.prim .add (.cons (.var 3) (.cons (.int 3) .nil))) (.cons (.int 9907) (.cons (.int 4) .nil)))))
    (.cons (.asg 9 (.lst .nil))
    (.cons (.for_ 10 true (.cons (.var 4) .nil) zgr)
    (.cons (.ifs (.not (.var 9)) (.cons (.asg 9 (.lst (.cons (.tup (.cons (.var 6) (.cons (.var 7) .nil))) .nil)))
    .nil) .nil)
    (.cons (.ret (.prim .toTup (.cons (.prim .cutTo (.cons (.var 9) (.cons (.var 2) .nil))) .nil)))
    .nil))))))))))
noncomputable def zh8 : Ss := (.cons (.app 4 (.tup (.cons (.prim .fdiv (.cons (.var 5) (.cons (.int 5) .nil))) (.cons (.prim .mod (.cons (.var 5) (.cons (.int 5) .nil))) .nil))))
    .nil)
noncomputable def zqA : Ss := (.cons (.asg 2 (.prim .idx (.cons (.var 0) (.cons (.int 0) .nil))))
    (.cons (.asg 3 (.lst (.cons (.prim .toList (.cons (.var 0) .nil)) (.cons .non (.cons (.tup .nil) (.cons (.int 7) (.cons (.str "00") (.cons (.prim .addT (.cons (.var 0) (.cons (.tup (.cons (.prim .idx (.cons (.var 0) (.cons (.prim .neg (.cons (.int 1) .nil)) .nil))) .nil)) .nil))) (.cons (.prim .addT (.cons (.var 0) (.cons (.tup (.cons (.tup (.cons (.int 8) (.cons (.int 0) .nil))) .nil)) .nil))) (.cons (.prim .addT (.cons (.tup (.cons (.tup (.cons (.prim .neg (.cons (.int 1) .nil)) (.cons (.int 0) .nil))) .nil)) (.cons (.var 0) .nil))) .nil))))))))))
    (.cons (.asg 3 (.prim .add (.cons (.var 3) (.cons (.lst (.cons (.prim .addT (.cons (.var 0) (.cons (.tup (.cons (.tup (.cons (.int 7) (.cons (.int 8) .nil))) .nil)) .nil))) (.cons (.prim .addT (.cons (.var 0) (.cons (.tup (.cons .non .nil)) .nil))) (.cons (.prim .addT (.cons (.var 0) (.cons (.tup (.cons (.tup (.cons (.int 7) .nil)) .nil)) .nil))) (.cons (.prim .addT (.cons (.var 0) (.cons (.tup (.cons (.lst (.cons (.int 7) (.cons (.int 7) .nil))) .nil)) .nil))) .nil))))) .nil))))
    (.cons (.asg 3 (.prim .add (.cons (.var 3) (.cons (.lst (.cons (.prim .addT (.cons (.tup (.cons (.tup (.cons (.int 0) (.cons (.bl true) .nil))) .nil)) (.cons (.var 0) .nil))) (.cons (.prim .addT (.cons (.var 0) (.cons (.tup (.cons (.str "77") .nil)) .nil))) .nil))) .nil))))
    (.cons (.asg 4 (.lst .nil))
    (.cons (.for_ 5 true (.cons (.int 25) .nil) zh8)
    (.cons (.asg 3 (.prim .add (.cons (.var 3) (.cons (.lst (.cons (.prim .toTup (.cons (.var 4) .nil)) (.cons (.prim .addT (.cons (.tup (.cons (.var 2) .nil)) (.cons (.var 0) .nil))) (.cons (.prim .addT (.cons (.var 0) (.cons (.prim .mulT (.cons (.tup (.cons (.tup (.cons (.int 0) (.cons (.int 0) .nil))) .nil)) (.cons (.int 2) .nil))) .nil))) (.cons (.prim .addT (.cons (.var 0) (.cons (.tup (.cons (.tup (.cons (.int 7) (.cons (.int 7) (.cons (.int 7) .nil)))) .nil)) .nil))) .nil))))) .nil))))
    (.cons (.ret (.prim .idx (.cons (.var 3) (.cons (.prim .mod (.cons (.var 1) (.cons (.int 18) .nil))) .nil))))
    .nil))))))))
noncomputable def zoB : Ss := (.cons (.asg 1 (.call 15 (.cons (.var 0) (.cons (.int 2) (.cons (.int 24) .nil)))))
    (.cons (.ifs (.prim .eq (.cons (.prim .mod (.cons (.call 13 (.cons (.var 0) (.cons (.int 0) .nil))) (.cons (.int 3) .nil))) (.cons (.int 0) .nil))) (.cons (.ret (.prim .eq (.cons (.call 6 (.cons (.var 1) .nil)) (.cons (.var 1) .nil))))
    .nil) .nil)
    (.cons (.asg 2 (.call 88 (.cons (.var 1) (.cons (.call 13 (.cons (.var 0) (.cons (.int 1) .nil))) .nil))))
    (.cons (.ret (.prim .eq (.cons (.comp true (.cons (.int 14) .nil) (.prim .ne (.cons (.call 120 (.cons (.var 0) (.cons (.var 3) .nil))) (.cons (.lst (.cons (.bl true) (.cons (.bl true) .nil))) .nil))) (.var 0)) (.cons (.lst .nil) .nil))))
    .nil))))
noncomputable def zlJ : Ts := (.cons (.ifs (.not (.call 3 (.cons (.var 0) .nil))) (.cons (.raise 2)
    .nil) .nil)
    (.cons (.pl (.retV 0))
    .nil))
noncomputable def ziA : Ts := (.cons (.callX 118 (.cons (.var 0) .nil))
    (.cons (.callX 112 (.cons (.var 1) .nil))
    (.cons (.callX 119 (.cons (.var 0) (.cons (.int 16) .nil)))
    (.cons .stuck .nil))))
noncomputable def ziB : Ts := (.cons (.callX 118 (.cons (.var 0) .nil))
    (.cons (.callX 112 (.cons (.var 1) .nil))
    (.cons (.callX 119 (.cons (.var 0) (.cons (.int 16) .nil)))
    (.cons .stuck .nil))))
noncomputable def ziC : Ts := (.cons (.callX 118 (.cons (.var 0) .nil))
    (.cons (.callX 112 (.cons (.var 1) .nil))
    (.cons (.callX 119 (.cons (.var 0) (.cons (.int 9) .nil)))
    (.cons (.ifs (.not (.call 0 (.cons (.var 2) (.cons (.int 0) (.cons (.int 1) .nil))))) (.cons (.raise 4)
    .nil) .nil)
    (.cons .stuck .nil)))))
noncomputable def ziD : Ts := (.cons (.ifs (.not (.call 5 (.cons (.var 0) .nil))) (.cons (.raise 1)
    .nil) .nil)
    (.cons (.pl (.retV 0))
    .nil))
noncomputable def zlK : Ts := (.cons .stuck .nil)
noncomputable def zhw : Ts := (.cons (.tryX (.cons (.ifs (.prim .lt (.cons (.var 0) (.cons (.int 8) .nil))) (.cons (.callX 121 (.cons (.var 0) (.cons (.var 1) .nil)))
    .nil) (.cons (.callX 122 (.cons (.prim .sub (.cons (.var 0) (.cons (.int 8) .nil))) (.cons (.var 1) .nil)))
    .nil))
    .nil) 2 [1, 2, 3, 4, 5] (.ret [1, 7]))
    (.cons (.pl (.ret (.lst .nil)))
    .nil))
noncomputable def ziE : Ts := (.cons (.ifs (.prim .eq (.cons (.var 0) (.cons (.int 0) .nil))) (.cons (.retX 118 (.cons (.var 1) .nil))
    .nil) .nil)
    (.cons (.ifs (.prim .eq (.cons (.var 0) (.cons (.int 1) .nil))) (.cons (.retX 123 (.cons (.var 1) (.cons .non (.cons .non .nil))))
    .nil) .nil)
    (.cons (.ifs (.prim .eq (.cons (.var 0) (.cons (.int 2) .nil))) (.cons (.retX 124 (.cons (.var 1) (.cons .non .nil)))
    .nil) .nil)
    (.cons (.ifs (.prim .eq (.cons (.var 0) (.cons (.int 3) .nil))) (.cons (.retX 125 (.cons (.var 1) (.cons (.tup (.cons (.int 2) (.cons (.int 1) .nil))) .nil)))
    .nil) .nil)
    (.cons (.ifs (.prim .eq (.cons (.var 0) (.cons (.int 4) .nil))) (.cons (.retX 126 (.cons (.var 1) (.cons (.tup (.cons (.int 1) (.cons (.int 2) .nil))) (.cons .non (.cons .non .nil)))))
    .nil) .nil)
    (.cons (.ifs (.prim .eq (.cons (.var 0) (.cons (.int 5) .nil))) (.cons (.retX 127 (.cons (.var 1) (.cons .non (.cons .non (.cons .non .nil)))))
    .nil) .nil)
    (.cons (.ifs (.prim .eq (.cons (.var 0) (.cons (.int 6) .nil))) (.cons (.retX 115 (.cons (.var 1) (.cons (.tup (.cons (.int 0) (.cons (.int 0) .nil))) .nil)))
    .nil) .nil)
    (.cons (.retX 116 (.cons (.var 1) (.cons .non .nil)))
    .nil))))))))
noncomputable def ziF : Ts := (.cons (.ifs (.prim .eq (.cons (.var 0) (.cons (.int 0) .nil))) (.cons (.retX 117 (.cons (.var 1) (.cons (.tup (.cons (.int 1) (.cons (.int 2) .nil))) (.cons .non .nil))))
    .nil) .nil)
    (.cons (.ifs (.prim .eq (.cons (.var 0) (.cons (.int 1) .nil))) (.cons (.retX 128 (.cons (.var 1) (.cons .non .nil)))
    .nil) .nil)
    (.cons (.ifs (.prim .eq (.cons (.var 0) (.cons (.int 2) .nil))) (.cons (.retX 129 (.cons (.var 1) (.cons .non .nil)))
    .nil) .nil)
    (.cons (.ifs (.prim .eq (.cons (.var 0) (.cons (.int 3) .nil))) (.cons (.retX 130 (.cons (.var 1) (.cons (.tup (.cons (.int 5) (.cons (.int 5) .nil))) .nil)))
    .nil) .nil)
    (.cons (.ifs (.prim .eq (.cons (.var 0) (.cons (.int 4) .nil))) (.cons (.retX 131 (.cons (.var 1) (.cons .non .nil)))
    .nil) .nil)
    (.cons (.retX 132 (.cons (.var 1) .nil))
    .nil))))))
noncomputable def ziG : Ts := (.cons (.callX 118 (.cons (.var 0) .nil))
    (.cons (.callX 112 (.cons (.var 1) .nil))
    (.cons (.callX 133 (.cons (.var 0) (.cons (.var 2) .nil)))
    (.cons .stuck .nil))))
noncomputable def ziH : Ts := (.cons (.callX 118 (.cons (.var 0) .nil))
    (.cons (.callX 112 (.cons (.var 1) .nil))
    (.cons .stuck .nil)))
noncomputable def ziI : Ts := (.cons (.callX 118 (.cons (.var 0) .nil))
    (.cons (.callX 112 (.cons (.var 1) .nil))
    (.cons .stuck .nil)))
noncomputable def ziJ : Ts := (.cons (.asgX 4 127 (.cons (.var 0) (.cons (.var 1) (.cons (.var 2) (.cons (.var 3) .nil)))))
    (.cons .stuck .nil))
noncomputable def ziK : Ts := (.cons (.callX 118 (.cons (.var 0) .nil))
    (.cons (.callX 112 (.cons (.var 1) .nil))
    (.cons (.callX 133 (.cons (.var 0) (.cons (.var 2) .nil)))
    (.cons (.callX 133 (.cons (.var 0) (.cons (.var 3) .nil)))
    (.cons .stuck .nil)))))
noncomputable def ziL : Ts := (.cons (.callX 118 (.cons (.var 0) .nil))
    (.cons (.callX 112 (.cons (.var 1) .nil))
    (.cons .stuck .nil)))
noncomputable def ziM : Ts := (.cons (.retX 134 (.cons (.var 0) (.cons (.var 1) (.cons (.bl true) .nil))))
    .nil)
noncomputable def ziN : Ts := (.cons (.retX 134 (.cons (.var 0) (.cons (.var 1) (.cons (.bl false) .nil))))
    .nil)
noncomputable def ziO : Ts := (.cons (.callX 118 (.cons (.var 0) .nil))
    (.cons (.callX 112 (.cons (.var 1) .nil))
    (.cons .stuck .nil)))
noncomputable def ziP : Ts := (.cons (.callX 118 (.cons (.var 0) .nil))
    (.cons .stuck .nil))
noncomputable def zlL : Ts := (.cons (.ifs (.or (.not (.call 2 (.cons (.var 1) .nil))) (.prim .nin (.cons (.var 1) (.cons (.var 0) .nil)))) (.cons (.raise 3)
    .nil) .nil)
    (.cons (.pl (.retV 1))
    .nil))
noncomputable def ziQ : Ts := (.cons (.callX 118 (.cons (.var 0) .nil))
    (.cons (.callX 112 (.cons (.var 1) .nil))
    (.cons .stuck .nil)))
noncomputable def U : Nat → Option Fn
  | 0 => some ⟨3, 3, ir0, [], none⟩
  | 1 => some ⟨1, 1, ir1, [], none⟩
  | 2 => some ⟨1, 1, ir2, [], none⟩
  | 3 => some ⟨1, 1, ir3, [], none⟩
  | 4 => some ⟨1, 1, ir4, [], none⟩
  | 5 => some ⟨1, 1, ir5, [], none⟩
  | 6 => some ⟨1, 1, ir6, [], none⟩
  | 13 => some ⟨2, 2, zqx, [], none⟩
  | 14 => some ⟨3, 3, zqy, [], none⟩
  | 15 => some ⟨3, 13, zqz, [], none⟩
  | 88 => some ⟨2, 6, zqA, [], none⟩
  | 92 => some ⟨1, 3, zoB, [], none⟩
  | 112 => some ⟨1, 1, .nil, [], some zlJ⟩
  | 115 => some ⟨2, 4, .nil, [], some ziA⟩
  | 116 => some ⟨2, 3, .nil, [], some ziB⟩
  | 117 => some ⟨3, 5, .nil, [], some ziC⟩
  | 118 => some ⟨1, 1, .nil, [], some ziD⟩
  | 119 => some ⟨2, 2, .nil, [], some zlK⟩
  | 120 => some ⟨2, 3, .nil, [], some zhw⟩
  | 121 => some ⟨2, 2, .nil, [], some ziE⟩
  | 122 => some ⟨2, 2, .nil, [], some ziF⟩
  | 123 => some ⟨3, 3, .nil, [], some ziG⟩
  | 124 => some ⟨2, 2, .nil, [], some ziH⟩
  | 125 => some ⟨2, 2, .nil, [], some ziI⟩
  | 126 => some ⟨4, 5, .nil, [], some ziJ⟩
  | 127 => some ⟨4, 6, .nil, [], some ziK⟩
  | 128 => some ⟨2, 2, .nil, [], some ziL⟩
  | 129 => some ⟨2, 2, .nil, [], some ziM⟩
  | 130 => some ⟨2, 2, .nil, [], some ziN⟩
  | 131 => some ⟨2, 5, .nil, [], some ziO⟩
  | 132 => some ⟨1, 2, .nil, [], some ziP⟩
  | 133 => some ⟨2, 2, .nil, [], some zlL⟩
  | 134 => some ⟨3, 4, .nil, [], some ziQ⟩
  | _ => none
theorem U0 : U 0 = some ⟨3, 3, ir0, [], none⟩ := rfl
theorem U1 : U 1 = some ⟨1, 1, ir1, [], none⟩ := rfl
theorem U2 : U 2 = some ⟨1, 1, ir2, [], none⟩ := rfl
theorem U4 : U 4 = some ⟨1, 1, ir4, [], none⟩ := rfl
theorem U5 : U 5 = some ⟨1, 1, ir5, [], none⟩ := rfl
theorem U6 : U 6 = some ⟨1, 1, ir6, [], none⟩ := rfl
theorem U13 : U 13 = some ⟨2, 2, zqx, [], none⟩ := rfl
theorem U14 : U 14 = some ⟨3, 3, zqy, [], none⟩ := rfl
theorem U15 : U 15 = some ⟨3, 13, zqz, [], none⟩ := rfl
theorem U88 : U 88 = some ⟨2, 6, zqA, [], none⟩ := rfl
theorem U92 : U 92 = some ⟨1, 3, zoB, [], none⟩ := rfl
theorem zvM : U 115 = some ⟨2, 4, .nil, [], some ziA⟩ := rfl
theorem zvN : U 116 = some ⟨2, 3, .nil, [], some ziB⟩ := rfl
theorem zvO : U 117 = some ⟨3, 5, .nil, [], some ziC⟩ := rfl
theorem zvP : U 118 = some ⟨1, 1, .nil, [], some ziD⟩ := rfl
theorem zvQ : U 120 = some ⟨2, 3, .nil, [], some zhw⟩ := rfl
theorem zvR : U 121 = some ⟨2, 2, .nil, [], some ziE⟩ := rfl
theorem zvS : U 122 = some ⟨2, 2, .nil, [], some ziF⟩ := rfl
theorem zvT : U 123 = some ⟨3, 3, .nil, [], some ziG⟩ := rfl
theorem zvU : U 124 = some ⟨2, 2, .nil, [], some ziH⟩ := rfl
theorem zvV : U 125 = some ⟨2, 2, .nil, [], some ziI⟩ := rfl
theorem zvW : U 126 = some ⟨4, 5, .nil, [], some ziJ⟩ := rfl
theorem zvX : U 127 = some ⟨4, 6, .nil, [], some ziK⟩ := rfl
theorem zvY : U 128 = some ⟨2, 2, .nil, [], some ziL⟩ := rfl
theorem zvZ : U 129 = some ⟨2, 2, .nil, [], some ziM⟩ := rfl
theorem zv0 : U 130 = some ⟨2, 2, .nil, [], some ziN⟩ := rfl
theorem zv1 : U 131 = some ⟨2, 5, .nil, [], some ziO⟩ := rfl
theorem zv2 : U 132 = some ⟨1, 2, .nil, [], some ziP⟩ := rfl
theorem zv3 : U 134 = some ⟨3, 4, .nil, [], some ziQ⟩ := rfl
end LK
namespace LK
open L2.LW
noncomputable def zaO : Nat := 100000
noncomputable abbrev call (n i : Nat) (ds : List D) : Option SV := zbl U zaO n i ds
theorem zaL {n i : Nat} {F : Fn} {ds : List D} (h : U i = some F) (hl : ds.length = F.np) (hio : F.io = [] := by rfl) (hx : F.xb = none := by rfl) :
    zbl U zaO (n + 1) i ds = zfs (zbq (zah U zaO n) zaO F.body (ds.map (fun d => some (.val d)) ++ List.replicate (F.nl - F.np) none)) := ziz h hl hio hx
noncomputable abbrev zaE := Int × Int
noncomputable def cD (c : zaE) : D := .tup [.int c.1, .int c.2]
noncomputable def fD (f : List zaE) : D := .tup (f.map cD)
@[simp] theorem zsn {c : zaE} : plain (cD c) = true := by simp [cD]
@[simp] theorem zdH : ∀ {l : List zaE}, zbd (l.map cD) = true
  | [] => by simp
  | c :: r => by simp [zdH (l := r)]
@[simp] theorem zso {f : List zaE} : plain (fD f) = true := by simp [fD]
@[simp] theorem znW {c : zaE} {n : Nat} : zbz (n + 1) (cD c) = true := by simp [cD, zbz]
@[simp] theorem zoC {n : Nat} {l : List zaE} : (l.map cD).all (zbz (n + 1)) = true := by
  rw [List.all_map, List.all_eq_true]; intro x _; exact znW
@[simp] theorem zqB {a b : zaE} : eqD (cD a) (cD b) = decide (a = b) := by
  rw [Bool.eq_iff_iff]
  obtain ⟨a1, a2⟩ := a; obtain ⟨b1, b2⟩ := b
  simp [cD, eqD, zfe]
@[simp] theorem ziR : ∀ {a b : List zaE}, zfe (a.map cD) (b.map cD) = decide (a = b)
  | [], [] => by simp [zfe]
  | [], _ :: _ => by simp [zfe]
  | _ :: _, [] => by simp [zfe]
  | x :: xs, y :: ys => by
    rw [Bool.eq_iff_iff]
    simp [zfe, ziR (a := xs) (b := ys)]
@[simp] theorem zqC {c : zaE} {l : List zaE} : ((l.map cD).any fun y => eqD y (cD c)) = decide (c ∈ l) := by
  rw [Bool.eq_iff_iff]
  simp [List.any_map, List.any_eq_true]
theorem zcT (n : Nat) (i a b : Int) : zbl U zaO (n + 1) 0 [.int i, .int a, .int b] = some (.val (.bl (decide (a ≤ i) && decide (i ≤ b)))) := by
  rw [zaL U0 rfl]
  simp [ir0]
  by_cases h : a ≤ i <;> simp [h]
theorem zgs (n : Nat) (c : zaE) : zbl U zaO (n + 1) 1 [cD c] = some (.val (.bl true)) := by
  rw [zaL U1 rfl]
  simp [ir1, cD]
noncomputable def okC (c : zaE) : Prop := 0 ≤ c.1 ∧ c.1 ≤ 7 ∧ 0 ≤ c.2 ∧ c.2 ≤ 7
theorem ziS (n : Nat) {c : zaE} (h : okC c) : zbl U zaO (n + 2) 2 [cD c] = some (.val (.bl true)) := by
  rw [zaL U2 rfl]
  obtain ⟨h1, h2, h3, h4⟩ := h
  have h0 := zgs n c
  simp [ir2, h0, zcT]
  simp [cD, zcT, h1, h2, h3, h4]
noncomputable def cLt (a b : zaE) : Prop := a.1 < b.1 ∨ (a.1 = b.1 ∧ a.2 < b.2)
noncomputable instance (a b : zaE) : Decidable (cLt a b) := by unfold cLt; exact inferInstance
@[simp] theorem zv4 {a b : zaE} : zao .lt [cD a, cD b] = some (.val (.bl (decide (cLt a b)))) := by
  simp only [cD, zao, pLt, ints?, Option.map_some, Option.bind_some, zd7, lexLt]
  congr 3
  rw [Bool.eq_iff_iff]
  simp only [cLt]
  by_cases h : a.1 = b.1
  · simp [h]
    by_cases h2 : a.2 = b.2
    · simp [h2]
    · simp [h2]
  · simp [h]
theorem zdo {a : zaE} : ¬ cLt a a := by unfold cLt; omega
structure OkF (f : List zaE) : Prop where
  ne : f ≠ []
  len : f.length ≤ 24
  cells : ∀ c ∈ f, okC c
  rise : f.Pairwise cLt
theorem zb6 : (100000 : Nat) ≤ line := by decide
theorem zgt {α : Type} {f : α → Bool} : ∀ {l : List α}, bools? (l.map fun x => D.bl (f x)) = some (l.map f)
  | [] => rfl
  | x :: r => by simp [bools?, zgt (l := r)]
theorem zcq {α : Type} {f : α → Bool} {l : List α} : zao .all [.lst (l.map fun x => D.bl (f x))] = some (.val (.bl (l.all f))) := by
  simp [zao, zq8, zgt, List.all_map, Function.comp_def]
theorem zbZ {i : Int} (h : 0 ≤ i) (h' : i ≤ 1000000) : inR i := by unfold inR; omega
theorem zeV {a b : Int} (h : inR a ∧ inR b) : zaN true [.val (.int a), .val (.int b)] = some ((List.range (b - a).toNat).map fun (k : Nat) => D.int (a + (k : Int))) := by simp [zaN, h]
theorem zcA {a : Int} (h : inR a) : zaN true [.val (.int a)] = some ((List.range a.toNat).map fun (k : Nat) => D.int (0 + (k : Int))) := by simp [zaN, h]
@[simp] theorem zqD {l : List D} : zaN false [.val (.tup l)] = some l := id rfl
@[simp] theorem zqE {l : List D} : zaN false [.val (.lst l)] = some l := id rfl
@[simp] theorem zqF {o : Bool} {l : List D} : zaN false [.obj o (.lst l)] = some l := id rfl
theorem zdZ {f : List zaE} {k : Nat} (h : k < f.length) : zao .idx [fD f, .int (k : Int)] = some (.val (cD f[k])) := by
  rw [fD, zkk, atI_nat (by simpa using h)]; simp
theorem zgu (n : Nat) {f : List zaE} (hl : f.length ≤ 1000) (h : f.Pairwise cLt) : zbl U zaO (n + 1) 4 [fD f] = some (.val (.bl true)) := by
  rw [zaL U4 rfl]
  have hl' := zb6
  have e3 : ((f.length : Int) - 1).toNat = f.length - 1 := by omega
  simp only [ir4]
  simp
  rw [zcz (rs := [.val (.int 1), .val (.int f.length)]) (xs := List.range (f.length - 1)) (f := fun (k : Nat) => D.int (1 + (k : Int))) (fun _ => .bl true)]
  · simp [zcq]
  · simp [fD]
  · rw [zeV ⟨zbZ (by omega) (by omega), zbZ (by omega) (by omega)⟩, e3]
  · simp; omega
  · intro k hk
    rw [List.mem_range] at hk
    have e1 : (1 + (k : Int) - 1) = (k : Int) := by omega
    have e2 : (1 + (k : Int)) = ((k + 1 : Nat) : Int) := by omega
    have hk1 : k < f.length := by omega
    have hk2 : k + 1 < f.length := by omega
    have := List.pairwise_iff_getElem.mp h k (k + 1) hk1 hk2 (by omega)
    simp [e1]
    rw [zdZ hk1, e2, zdZ hk2]
    simp [this]
@[simp] theorem zsp {f : List zaE} : zcd .tuple (fD f) = true := id rfl
@[simp] theorem zsq {c : zaE} : zcd .tuple (cD c) = true := id rfl
theorem zqG {f : List zaE} : zao .len [fD f] = some (.val (.int f.length)) := by simp [fD]
theorem zhx (n : Nat) {f : List zaE} (h : OkF f) : zbl U zaO (n + 3) 5 [fD f] = some (.val (.bl true)) := by
  rw [zaL U5 rfl]
  have hl' := zb6
  have h1 := h.len
  have h2 : 1 ≤ f.length := by have := h.ne; cases f <;> simp_all
  have hr := zgu (n + 1) (by omega) h.rise
  simp -implicitDefEqProofs only [ir5]
  simp -implicitDefEqProofs [zqG, show (1 : Int) ≤ f.length by omega, show (f.length : Int) ≤ 24 by omega, hr]
  rw [zcz (rs := [.val (fD f)]) (xs := f) (f := cD) (fun _ => .bl true)]
  · simp -implicitDefEqProofs [zcq, fD]
  · simp
  · rfl
  · omega
  · intro c hc
    simp -implicitDefEqProofs [ziS n (h.cells c hc)]
theorem ziT (n : Nat) {f : List zaE} (h : OkF f) : zbl U zaO (n + 4) 6 [fD f] = some (.val (fD f)) := by
  rw [zaL U6 rfl]
  simp [ir6, zhx n h]
structure OkL (l : zaE) : Prop where
  a : 0 ≤ l.1
  b : l.1 ≤ l.2
  c : 1 ≤ l.2
  d : l.2 ≤ 4
noncomputable def zcB (i : Int) : Int := if i < 0 then -i else i
noncomputable def near (l a b : zaE) : Bool := decide ((min (zcB (a.1 - b.1)) (zcB (a.2 - b.2)), max (zcB (a.1 - b.1)) (zcB (a.2 - b.2))) = l)
theorem zgv (a b : Int) : zcB (a - b) = zcB (b - a) := by unfold zcB; split <;> split <;> omega
theorem zkm (l a b : zaE) : near l a b = near l b a := by unfold near; rw [zgv a.1, zgv a.2]
@[simp] theorem zwh {c : zaE} : zao .idx [cD c, .int 0] = some (.val (.int c.1)) := id rfl
@[simp] theorem zwi {c : zaE} : zao .idx [cD c, .int 1] = some (.val (.int c.2)) := id rfl
noncomputable def fold (x y : Int) : zaE := (min (zcB x) (zcB y), max (zcB x) (zcB y))
end LK
namespace LK
open L2.LW
noncomputable def sm (a : Int) : Prop := -(2 ^ 64) < a ∧ a < 2 ^ 64
theorem znX {a : Int} (h : -1000000 ≤ a) (h' : a ≤ 1000000) : sm a := by unfold sm; omega
theorem zkn {a b : Int} (h : sm b) : zao .mul [.int a, .int b] = some (.val (.int (a * b))) := zqi h
noncomputable def sD (ns : List Int) : D := .lst (ns.map D.int)
noncomputable def zcM (ns : List Int) (k : Int) : Int := ns.getD k.toNat 0
theorem zbu (n : Nat) (ns : List Int) {k : Int} (h : 0 ≤ k) : zbl U zaO (n + 1) 13 [sD ns, .int k] = some (.val (.int (zcM ns k))) := by
  rw [zaL U13 rfl]
  obtain ⟨j, rfl⟩ := Int.eq_ofNat_of_zero_le h
  simp only [zqx]
  by_cases hj : j < ns.length
  · have hj' : (j : Int) < (ns.length : Int) := by omega
    simp [sD, hj']
    rw [zmN, atI_nat (by simpa using hj)]
    simp [zcM, hj]
  · have hj' : ¬ (j : Int) < (ns.length : Int) := by omega
    simp [sD, hj']
    simp [zcM, List.getElem?_eq_none (by omega : ns.length ≤ j)]
theorem zbv (n : Nat) (x : Int) {p m : Int} (h : 0 < p) (h' : 0 < m) : zbl U zaO (n + 1) 14 [.int x, .int p, .int m] = some (.val (.int (x * 48271 % p % m))) := by
  rw [zaL U14 rfl]
  simp [zqy, zkn (znX (a := 48271) (by decide) (by decide)), zhv h, zhv h']
structure Built (down right wide : Int) (r k : Int) (fs : List zaE) : Prop where
  rise : fs.Pairwise cLt
  at_ : ∀ x ∈ fs, down ≤ x.1 ∧ right ≤ x.2 ∧ x.2 < right + wide ∧ (x.1 < down + r ∨ (x.1 = down + r ∧ x.2 < right + k))
theorem Built.next {down right wide r k : Int} {fs : List zaE} (b : Built down right wide r k fs) (hk : 0 ≤ k) (hw : k < wide) (hr : 0 ≤ r) : Built down right wide r (k + 1) (fs ++ [(down + r, right + k)]) := by
  refine ⟨?_, fun x hx => ?_⟩
  · rw [List.pairwise_append]
    refine ⟨b.rise, by simp, fun x hx y hy => ?_⟩
    simp only [List.mem_singleton] at hy
    subst hy
    have := b.at_ x hx
    unfold cLt; simp only; omega
  · rw [List.mem_append, List.mem_singleton] at hx
    rcases hx with hx | rfl
    · have := b.at_ x hx; omega
    · show down ≤ down + r ∧ right ≤ right + k ∧ right + k < right + wide ∧ (down + r < down + r ∨ (down + r = down + r ∧ right + k < right + (k + 1)))
      omega
theorem Built.skip {down right wide r k : Int} {fs : List zaE} (b : Built down right wide r k fs) : Built down right wide r (k + 1) fs :=
  ⟨b.rise, fun x hx => by have := b.at_ x hx; omega⟩
theorem Built.row {down right wide r : Int} {fs : List zaE} (b : Built down right wide r wide fs) : Built down right wide (r + 1) 0 fs :=
  ⟨b.rise, fun x hx => by have := b.at_ x hx; omega⟩
theorem zv5 (a b c : D) {w : Int} (h : w = 0 ∨ w = 1 ∨ w = 2) : ∃ d, (d = a ∨ d = b ∨ d = c) ∧ zao .idx [.lst [a, b, c], .int w] = some (.val d) := by
  rcases h with rfl | rfl | rfl
  · exact ⟨a, .inl rfl, rfl⟩
  · exact ⟨b, .inr (.inl rfl), rfl⟩
  · exact ⟨c, .inr (.inr rfl), rfl⟩
@[simp] theorem zoD {fs : List zaE} {a b : Int} : fs.map cD ++ [.tup [.int a, .int b]] = (fs ++ [(a, b)]).map cD := by simp [cD]
theorem zhy (n : Nat) (ns : List Int) {at_ most x rows wide down right way r k : Int} {j12 : Option SV} {fs : List zaE} (h0 : 0 ≤ at_) (hr : 0 ≤ r ∧ r ≤ 1000) (hk : 0 ≤ k ∧ k ≤ 1000) (hw : 0 ≤ way ∧ way < 4) (hl : fs.length ≤ 1000) (hj : zbS (some j12) = true) :
    ∃ v fs', zbS (some v) = true ∧ zbq (zah U zaO (n + 1)) zaO zh7 [some (.val (sD ns)), some (.val (.int at_)), some (.val (.int most)), some (.val (.int x)), some (.val (.int rows)), some (.val (.int wide)), some (.val (.int down)), some (.val (.int right)), some (.val (.int way)),
      some (.obj true (.lst (fs.map cD))), some (.val (.int r)), some (.val (.int k)), j12] =
      some (.nx, [some (.val (sD ns)), some (.val (.int at_)), some (.val (.int most)), some (.val (.int x)), some (.val (.int rows)), some (.val (.int wide)), some (.val (.int down)), some (.val (.int right)), some (.val (.int way)),
      some (.obj true (.lst (fs'.map cD))), some (.val (.int r)), some (.val (.int k)), v]) ∧ (fs' = fs ∨ fs' = fs ++ [(down + r, right + k)]) := by
  have m1 : sm r := znX (by omega) (by omega)
  have m2 : sm k := znX (by omega) (by omega)
  have h7 : (0 : Int) < 7 := by decide
  have hi : 0 ≤ at_ + 2 + (r + 2 * k) % 7 := by omega
  have hl' := zb6
  have hl2 : fs.length < line := by omega
  simp only [zh7]
  simp [zkn m1, zkn m2, zhv h7, zbu n ns hi, hj]
  by_cases hz : way = 0
  · simp [hz, hl2]
    exact ⟨_, zcp, fs ++ [(down + r, right + k)], by simp; rfl, .inr rfl⟩
  · obtain ⟨d, hd, e⟩ := zv5 (.int 2) (.int 4) (.int 7) (w := way - 1) (by omega)
    simp [hz, e]
    have key : ∃ m, d = .int m ∧ 0 < m := by
      rcases hd with rfl | rfl | rfl
      · exact ⟨_, rfl, by decide⟩
      · exact ⟨_, rfl, by decide⟩
      · exact ⟨_, rfl, by decide⟩
    obtain ⟨m, rfl, hm⟩ := key
    simp [zbv n _ (show (0 : Int) < 9931 by decide) hm]
    split
    · simp [hl2]
      exact ⟨_, zcp, fs ++ [(down + r, right + k)], by simp; rfl, .inr rfl⟩
    · exact ⟨_, zcp, fs, rfl, .inl rfl⟩
noncomputable def flE (ns : List Int) (at_ most x rows wide down right way : Int) (fs : List zaE) (a b c : Option SV) : Env :=
  [some (.val (sD ns)), some (.val (.int at_)), some (.val (.int most)), some (.val (.int x)), some (.val (.int rows)), some (.val (.int wide)), some (.val (.int down)), some (.val (.int right)), some (.val (.int way)), some (.obj true (.lst (fs.map cD))), a, b, c]
theorem zko (n : Nat) (ns : List Int) {at_ most x rows wide down right way : Int} {r : Nat} {fs : List zaE} {b c : Option SV} (h0 : 0 ≤ at_) (hr : r ≤ 100) (hw : 0 ≤ wide ∧ wide ≤ 6) (hy : 0 ≤ way ∧ way < 4) (hl : fs.length ≤ 6 * r) (hb : Built down right wide r 0 fs) (fb : zbS (some b) = true) (fc : zbS (some c) = true) :
    ∃ a' b' c' fs', (zbS (some a') = true ∧ zbS (some b') = true ∧ zbS (some c') = true) ∧ zbq (zah U zaO (n + 1)) zaO zgr (flE ns at_ most x rows wide down right way fs (some (.val (.int r))) b c) = some (.nx, flE ns at_ most x rows wide down right way fs' a' b' c') ∧ fs'.length ≤ 6 * (r + 1) ∧ Built down right wide (r + 1 : Nat) 0 fs' := by
  obtain ⟨ρ', h1, b', c', fs', fr, rfl, h2, h3⟩ := zft (i := 11) (a := 0) (m := wide.toNat) (body := zbq (zah U zaO (n + 1)) zaO zh7)
    (fun k ρ => ∃ b' c' fs', (zbS (some b') = true ∧ zbS (some c') = true) ∧ ρ = flE ns at_ most x rows wide down right way fs' (some (.val (.int r))) b' c' ∧ fs'.length ≤ 6 * r + k ∧ Built down right wide r (k : Int) fs') (ρ := flE ns at_ most x rows wide down right way fs (some (.val (.int r))) b c)
    ⟨b, c, fs, ⟨fb, fc⟩, rfl, by omega, hb⟩ fun k ρ hk zz3 => by
      obtain ⟨b', c', fs', fr, e, h2, h3⟩ := zz3
      subst e
      obtain ⟨v, fs2, fv, e1, e2⟩ := zhy n ns (at_ := at_) (most := most) (x := x) (rows := rows) (wide := wide) (down := down) (right := right) (way := way) (r := r) (k := 0 + (k : Int)) (j12 := c') (fs := fs') h0 (by omega) (by omega) hy (by omega) fr.2
      refine ⟨_, _, e1, .inl rfl, _, v, fs2, ⟨zcp, fv⟩, rfl, ?_⟩
      rw [Int.zero_add] at e2
      rcases e2 with rfl | rfl
      · exact ⟨by omega, h3.skip⟩
      · exact ⟨by simp; omega, h3.next (by omega) (by omega) (by omega)⟩
  refine ⟨some (.val (.int r)), b', c', fs', ⟨zcp, fr.1, fr.2⟩, ?_, by omega, ?_⟩
  · simp only [zgr, zki, zht, zgo, zh4, zkg, zkh]
    rw [show (flE ns at_ most x rows wide down right way fs (some (.val (.int r))) b c)[11]? = some b from rfl, fb, show look (flE ns at_ most x rows wide down right way fs (some (.val (.int r))) b c) 5 = some (.val (.int wide)) from rfl]
    simp [zcA (zbZ hw.1 (by omega : wide ≤ 1000000))]
    rw [show (List.map (fun (k : Nat) => D.int (k : Int)) (List.range wide.toNat)) = (List.range wide.toNat).map fun (k : Nat) => D.int (0 + (k : Int)) by simp, h1]
    simp
  · have e : (wide.toNat : Int) = wide := by omega
    rw [e] at h3
    have := h3.row
    simpa using this
theorem zkp (n : Nat) (ns : List Int) {at_ most x rows wide down right way : Int} {a b c : Option SV} (h0 : 0 ≤ at_) (hr : 0 ≤ rows ∧ rows ≤ 5) (hw : 0 ≤ wide ∧ wide ≤ 6) (hy : 0 ≤ way ∧ way < 4) (fa : zbS (some a) = true) (fb : zbS (some b) = true) (fc : zbS (some c) = true) :
    ∃ a' b' c' fs', exS (zah U zaO (n + 1)) zaO (.for_ 10 true (.cons (.var 4) .nil) zgr) (flE ns at_ most x rows wide down right way [] a b c) = some (.nx, flE ns at_ most x rows wide down right way fs' a' b' c') ∧ Built down right wide rows 0 fs' ∧ fs'.length ≤ 30 := by
  obtain ⟨ρ', h1, a', b', c', fs', fr, rfl, h2, h3⟩ := zft (i := 10) (a := 0) (m := rows.toNat) (body := zbq (zah U zaO (n + 1)) zaO zgr)
    (fun k ρ => ∃ a' b' c' fs', (zbS (some a') = true ∧ zbS (some b') = true ∧ zbS (some c') = true) ∧ ρ = flE ns at_ most x rows wide down right way fs' a' b' c' ∧ fs'.length ≤ 6 * k ∧ Built down right wide (k : Int) 0 fs') (ρ := flE ns at_ most x rows wide down right way [] a b c)
    ⟨a, b, c, [], ⟨fa, fb, fc⟩, rfl, by simp, ⟨by simp, by simp⟩⟩ fun k ρ hk zz3 => by
      obtain ⟨a', b', c', fs', fr, e, h2, h3⟩ := zz3
      subst e
      obtain ⟨a2, b2, c2, fs2, fr2, e1, e2, e3⟩ := zko n ns (at_ := at_) (most := most) (x := x) (rows := rows) (wide := wide) (down := down) (right := right) (way := way) (r := k) (fs := fs') (b := b') (c := c') h0 (by omega) hw hy h2 h3 fr.2.1 fr.2.2
      refine ⟨_, _, ?_, .inl rfl, a2, b2, c2, fs2, fr2, rfl, e2, e3⟩
      rw [Int.zero_add]
      exact e1
  refine ⟨a', b', c', fs', ?_, ?_, by omega⟩
  · simp only [zht, zgo, zh4, zkg, zkh]
    rw [show (flE ns at_ most x rows wide down right way [] a b c)[10]? = some a from rfl, fa, show look (flE ns at_ most x rows wide down right way [] a b c) 4 = some (.val (.int rows)) from rfl]
    simp [zcA (zbZ hr.1 (by omega : rows ≤ 1000000))]
    rw [show (List.map (fun (k : Nat) => D.int (k : Int)) (List.range rows.toNat)) = (List.range rows.toNat).map fun (k : Nat) => D.int (0 + (k : Int)) by simp, h1]
  · have e : (rows.toNat : Int) = rows := by omega
    rw [e] at h3
    exact h3
theorem zmO {fs : List zaE} {k : Int} (h : 0 ≤ k) : zao .cutTo [.lst (fs.map cD), .int k] = some (.obj true (.lst ((fs.take k.toNat).map cD))) := by
  simp [zao, zhP, h]
noncomputable def zt2 (f : List zaE) : Prop := ∃ d : Int, ∀ c ∈ f, d ≤ c.1 ∧ c.1 < d + 5
theorem zfu (n : Nat) (ns : List Int) {at_ most : Int} (h0 : 0 ≤ at_) (hm : 1 ≤ most) (hm2 : most ≤ 24) : ∃ f, OkF f ∧ (f.length : Int) ≤ most ∧ zt2 f ∧ zbl U zaO (n + 2) 15 [sD ns, .int at_, .int most] = some (.val (fD f)) := by
  rw [zaL U15 rfl]
  simp only [zqz]
  have p5 : (0 : Int) < 5 := by decide
  have p6 : (0 : Int) < 6 := by decide
  have p4 : (0 : Int) < 4 := by decide
  have q1 : (0 : Int) < 9973 := by decide
  have q2 : (0 : Int) < 9967 := by decide
  have q3 : (0 : Int) < 9949 := by decide
  have q4 : (0 : Int) < 9941 := by decide
  have q5 : (0 : Int) < 9907 := by decide
  have h1 : 0 ≤ at_ + 1 := by omega
  simp [zbu n ns h0, zbu n ns h1, zbv n _ q1 p5, zbv n _ q2 p6, zbv n _ q5 p4]
  generalize hx : zcM ns at_ = x
  generalize hrows : 1 + x * 48271 % 9973 % 5 = rows
  generalize hwide : 1 + x * 48271 % 9967 % 6 = wide
  have hr9 : 0 < 9 - rows := by omega
  have hw9 : 0 < 9 - wide := by omega
  simp [zbv n _ q3 hr9, zbv n _ q4 hw9, zbu n ns h1, zbv n _ q5 p4]
  generalize hdown : zcM ns (at_ + 1) * 48271 % 9949 % (9 - rows) = down
  generalize hright : zcM ns (at_ + 1) * 48271 % 9941 % (9 - wide) = right
  generalize hway : (x + 3) * 48271 % 9907 % 4 = way
  have bw : 0 ≤ way ∧ way < 4 := by omega
  have bd : 0 ≤ down ∧ down < 9 - rows := by rw [← hdown]; exact ⟨Int.emod_nonneg _ (by omega), Int.emod_lt_of_pos _ hr9⟩
  have br : 0 ≤ right ∧ right < 9 - wide := by rw [← hright]; exact ⟨Int.emod_nonneg _ (by omega), Int.emod_lt_of_pos _ hw9⟩
  obtain ⟨a', b', c', fs, e1, hb, hl⟩ := zkp n ns (at_ := at_) (most := most) (x := x) (rows := rows) (wide := wide) (down := down) (right := right) (way := way) (a := none) (b := none) (c := none) h0 (by omega) (by omega) bw rfl rfl rfl
  have e1' := e1
  simp only [flE, List.map_nil] at e1'
  have hok : ∀ c ∈ fs, okC c := fun c hc => by
    have := hb.at_ c hc
    unfold okC; omega
  by_cases hf : fs = []
  · subst hf
    refine ⟨[(down, right)], ⟨by simp, by simp, fun c hc => ?_, by simp⟩, by simp; omega, ⟨down, fun c hc => ?_⟩, ?_⟩
    · simp at hc; subst hc; unfold okC; simp only; omega
    · simp at hc; subst hc; simp only; omega
    · simp [e1']
      rw [show D.tup [.int down, .int right] = cD (down, right) from rfl, show ([cD (down, right)] : List D) = [(down, right)].map cD from rfl, zmO (by omega)]
      rw [List.take_of_length_le (by simp; omega)]
      simp [fD]
  · refine ⟨fs.take most.toNat, ⟨fun h => ?_, ?_, fun c hc => hok c (List.mem_of_mem_take hc), hb.rise.sublist (List.take_sublist _ _)⟩, ?_, ⟨down, fun c hc => ?_⟩, ?_⟩
    · rw [List.take_eq_nil_iff] at h
      rcases h with h | h
      · omega
      · exact hf h
    · rw [List.length_take]; omega
    · rw [List.length_take]; omega
    · have := hb.at_ c (List.mem_of_mem_take hc)
      omega
    · have hne : fs.map cD ≠ [] := by simpa using hf
      simp [e1', hne, hf]
      rw [zmO (by omega)]
      simp [fD]
theorem zgw (n : Nat) (ns : List Int) {at_ most : Int} (h0 : 0 ≤ at_) (hm : 1 ≤ most) (hm2 : most ≤ 24) : ∃ f, OkF f ∧ (f.length : Int) ≤ most ∧ zbl U zaO (n + 2) 15 [sD ns, .int at_, .int most] = some (.val (fD f)) := by
  obtain ⟨f, h1, h2, _, h3⟩ := zfu n ns h0 hm hm2
  exact ⟨f, h1, h2, h3⟩
end LK
namespace LK
open L2.LW
noncomputable def depth : Nat := 40
end LK
namespace LK
open L2.LW
noncomputable abbrev Ms := List (zaE × zaE)
noncomputable def dD (ms : Ms) : D := .dct true (ms.map fun p => cD p.1) (ms.map fun p => cD p.2)
noncomputable def get (ms : Ms) (c : zaE) : Option zaE := (ms.find? fun p => decide (p.1 = c)).map (·.2)
noncomputable def put (ms : Ms) (c v : zaE) : Ms := if (get ms c).isSome then ms.map (fun p => if p.1 = c then (p.1, v) else p) else ms ++ [(c, v)]
@[simp] theorem zkq {c : zaE} : zce true (cD c) = true := by simp [cD, zce, ints?]
theorem zgx (c : zaE) : ∀ l : List zaE, kix (l.map cD) (cD c) = l.findIdx? fun x => decide (x = c)
  | [] => rfl
  | x :: r => by
    have ih := zgx c r
    unfold kix at ih ⊢
    rw [List.map_cons, List.findIdx?_cons, List.findIdx?_cons, zqB, ih]
theorem zfv (c : zaE) : ∀ l : List zaE, (kix (l.map cD) (cD c)).isSome = decide (c ∈ l) := fun l => by
  rw [zgx]
  cases e : l.findIdx? fun x => decide (x = c) with
  | none =>
    rw [List.findIdx?_eq_none_iff] at e
    have : c ∉ l := fun h => by have := e c h; simp at this
    simp [this]
  | some i =>
    obtain ⟨h1, h2, _⟩ := List.findIdx?_eq_some_iff_getElem.mp e
    have : c ∈ l := by
      have h2 : l[i] = c := by simpa using h2
      rw [← h2]; exact List.getElem_mem h1
    simp [this]
theorem zlM (p : zaE × zaE) (r : Ms) (c : zaE) : get (p :: r) c = if p.1 = c then some p.2 else get r c := by
  unfold get
  rw [List.find?_cons]
  by_cases h : p.1 = c <;> simp [h]
theorem zcC (c : zaE) : ∀ ms : Ms, (get ms c).isSome = decide (c ∈ ms.map (·.1))
  | [] => rfl
  | p :: r => by
    rw [zlM, List.map_cons]
    by_cases h : p.1 = c
    · simp [h]
    · rw [if_neg h, zcC c r]
      have : ¬ c = p.1 := fun z => h z.symm
      simp [this]
theorem zkr (ms : Ms) : (ms.map fun p => cD p.1) = (ms.map (·.1)).map cD := by rw [List.map_map]; rfl
@[simp] theorem zv6 {c : zaE} {ms : Ms} : zao .inn [cD c, dD ms] = some (.val (.bl (get ms c).isSome)) := by
  simp only [dD, zao, pIn, zkq, if_true, zd7, zkr, zfv, zcC]
@[simp] theorem zve {c : zaE} {ms : Ms} : zao .nin [cD c, dD ms] = some (.val (.bl (!(get ms c).isSome))) := by
  simp only [dD, zao, zom, zkq, if_true, zd7, zkr, zfv, zcC]
@[simp] theorem zqH {ms : Ms} : zbd (ms.map fun p => cD p.2) = true := by
  have : (ms.map fun p => cD p.2) = (ms.map (·.2)).map cD := by rw [List.map_map]; rfl
  rw [this]; exact zdH
@[simp] theorem zsr {ms : Ms} : zis (dD ms) = true := by simp [dD]
@[simp] theorem zqI {ms : Ms} : zbU (dD ms) = true := by simp [dD]
noncomputable def zqJ (ms : Ms) : Prop := (ms.map (·.1)).Nodup
theorem zfw {α : Type} [DecidableEq α] : ∀ {l m : List α}, l.Nodup → (∀ x ∈ l, x ∈ m) → l.length ≤ m.length
  | [], _, _, _ => Nat.zero_le _
  | x :: r, m, hn, hs => by
    rw [List.nodup_cons] at hn
    have hx := hs x List.mem_cons_self
    have ih := zfw (l := r) (m := m.erase x) hn.2 fun y hy => by
      rw [List.mem_erase_of_ne (fun e => hn.1 (by rw [← e]; exact hy))]
      exact hs y (List.mem_cons_of_mem _ hy)
    rw [List.length_erase_of_mem hx] at ih
    have : 0 < m.length := List.length_pos_of_mem hx
    simp; omega
noncomputable def zv7 (l : zaE) : List Int := ((List.range l.2.toNat).map fun (k : Nat) => (1 + (k : Int))).filter fun d => decide (l.1 % d = 0) && decide (l.2 % d = 0)
noncomputable def zcc (l : zaE) : Int := match zv7 l with
  | [] => 1
  | n :: r => r.foldl max n
theorem znY {l : zaE} (h : OkL l) : l ∈ [((0 : Int), (1 : Int)), (1, 1), (0, 2), (1, 2), (2, 2), (0, 3), (1, 3), (2, 3), (3, 3), (0, 4), (1, 4), (2, 4), (3, 4), (4, 4)] := by
  obtain ⟨h1, h2, h3, h4⟩ := h
  have all : ∀ i j : Fin 5, i.1 ≤ j.1 → 1 ≤ j.1 → (((i.1 : Nat) : Int), ((j.1 : Nat) : Int)) ∈ [((0 : Int), (1 : Int)), (1, 1), (0, 2), (1, 2), (2, 2), (0, 3), (1, 3), (2, 3), (3, 3), (0, 4), (1, 4), (2, 4), (3, 4), (4, 4)] := by decide +kernel
  have := all ⟨l.1.toNat, by omega⟩ ⟨l.2.toNat, by omega⟩ (by simp only; omega) (by simp only; omega)
  simp only at this
  rw [Int.toNat_of_nonneg h1, Int.toNat_of_nonneg (by omega)] at this
  exact this
theorem OkL.cases {P : zaE → Prop} {l : zaE} (h : OkL l) (p : ∀ x ∈ [((0 : Int), (1 : Int)), (1, 1), (0, 2), (1, 2), (2, 2), (0, 3), (1, 3), (2, 3), (3, 3), (0, 4), (1, 4), (2, 4), (3, 4), (4, 4)], P x) : P l := p l (znY h)
noncomputable def zks (l : zaE) : Bool := decide ((l.1 / zcc l + l.2 / zcc l) % 2 = 1)
noncomputable def hue (l c : zaE) : Int := if zks l then (c.1 / zcc l + c.2 / zcc l) % 2 else c.1 / zcc l % 2
theorem zcr (i : Int) : (zcB i = i ∧ 0 ≤ i) ∨ (zcB i = -i ∧ i < 0) := by
  unfold zcB; split <;> omega
theorem zfx {l a b : zaE} : near l a b = true ↔ (zcB (a.1 - b.1) = l.1 ∧ zcB (a.2 - b.2) = l.2 ∧ l.1 ≤ l.2) ∨ (zcB (a.1 - b.1) = l.2 ∧ zcB (a.2 - b.2) = l.1 ∧ l.1 ≤ l.2) := by
  unfold near
  rw [decide_eq_true_iff]
  obtain ⟨l1, l2⟩ := l
  simp only [Prod.mk.injEq]
  omega
theorem zlN {l : zaE} (h : OkL l) : 1 ≤ zcc l ∧ l.1 = zcc l * (l.1 / zcc l) ∧ l.2 = zcc l * (l.2 / zcc l) ∧ (zks l = false → l.1 / zcc l % 2 = 1 ∧ l.2 / zcc l % 2 = 1) :=
  OkL.cases (P := fun l => 1 ≤ zcc l ∧ l.1 = zcc l * (l.1 / zcc l) ∧ l.2 = zcc l * (l.2 / zcc l) ∧ (zks l = false → l.1 / zcc l % 2 = 1 ∧ l.2 / zcc l % 2 = 1)) h (by decide +kernel)
theorem zlO {g m x y : Int} (hg : 1 ≤ g) (h : x - y = g * m ∨ x - y = -(g * m)) : (x / g = y / g + m ∨ x / g = y / g - m) ∧ x % g = y % g := by
  rcases h with h | h
  · rw [show x = y + g * m by omega, Int.add_mul_ediv_left _ _ (by omega), Int.add_mul_emod_self_left]
    exact ⟨.inl rfl, rfl⟩
  · rw [show x = y + g * (-m) by rw [Int.mul_neg]; omega, Int.add_mul_ediv_left _ _ (by omega), Int.add_mul_emod_self_left]
    exact ⟨.inr (by omega), rfl⟩
theorem zeW {l a b : zaE} (h : OkL l) (hn : near l a b = true) : ∃ m n : Int, (a.1 / zcc l = b.1 / zcc l + m ∨ a.1 / zcc l = b.1 / zcc l - m) ∧ (a.2 / zcc l = b.2 / zcc l + n ∨ a.2 / zcc l = b.2 / zcc l - n) ∧
    a.1 % zcc l = b.1 % zcc l ∧ a.2 % zcc l = b.2 % zcc l ∧ (zks l = true → (m + n) % 2 = 1) ∧ (zks l = false → m % 2 = 1 ∧ n % 2 = 1) := by
  obtain ⟨g1, e1, e2, ev⟩ := zlN h
  have od : zks l = true → (l.1 / zcc l + l.2 / zcc l) % 2 = 1 := fun z => by unfold zks at z; exact of_decide_eq_true z
  have ha := zcr (a.1 - b.1)
  have hb := zcr (a.2 - b.2)
  rw [zfx] at hn
  generalize zcc l = g at *
  generalize l.1 / g = m at *
  generalize l.2 / g = n at *
  rw [e1, e2] at hn
  rcases hn with ⟨p, q, _⟩ | ⟨p, q, _⟩
  · obtain ⟨s1, s2⟩ := zlO (x := a.1) (y := b.1) g1 (m := m) (by omega)
    obtain ⟨t1, t2⟩ := zlO (x := a.2) (y := b.2) g1 (m := n) (by omega)
    exact ⟨m, n, s1, t1, s2, t2, od, ev⟩
  · obtain ⟨s1, s2⟩ := zlO (x := a.1) (y := b.1) g1 (m := n) (by omega)
    obtain ⟨t1, t2⟩ := zlO (x := a.2) (y := b.2) g1 (m := m) (by omega)
    exact ⟨n, m, s1, t1, s2, t2, fun z => by have := od z; omega, fun z => ⟨(ev z).2, (ev z).1⟩⟩
theorem zh9 {l a b : zaE} (h : OkL l) (hn : near l a b = true) : hue l a ≠ hue l b := by
  obtain ⟨m, n, s, t, _, _, od, ev⟩ := zeW h hn
  unfold hue
  by_cases z : zks l = true
  · have := od z
    rw [if_pos z, if_pos z]; omega
  · have := (ev (by simpa using z)).1
    rw [if_neg z, if_neg z]; omega
theorem zmP {l : zaE} (c : zaE) : hue l c = 0 ∨ hue l c = 1 := by
  unfold hue; split <;> omega
end LK
namespace LK
open L2.LW
noncomputable def zvf (k : Option (List D)) : Option (Option SV) → Option (List D)
  | some (some (.io d)) => k.map (d :: ·)
  | _ => none
@[simp] theorem zt3 {k : Option (List D)} {d : D} : zvf k (some (some (.io d))) = k.map (d :: ·) := id rfl
@[simp] theorem zoE {ρ : Env} : zbW ρ [] = some [] := by rw [zbW]
@[simp] theorem znZ {ρ : Env} {i : Nat} {r : List Nat} : zbW ρ (i :: r) = zvf (zbW ρ r) ρ[i]? := by
  rw [zbW]
  rcases ρ[i]? with _ | _ | (_ | _ | _) <;> rfl
@[simp] theorem zt4 {io : List Nat} {r : SV} {ρ : Env} : znj io (some (.rt r, ρ)) = (zbW ρ io).map (Ans.ok r) := id rfl
@[simp] theorem zt5 {io : List Nat} {ρ : Env} : znj io (some (.nx, ρ)) = (zbW ρ io).map (Ans.ok (.val .non)) := id rfl
noncomputable def tD (tr : List zaE) : D := .dct true (tr.map cD) (tr.map fun _ => .bl true)
@[simp] theorem zqK {tr : List zaE} : zbd (tr.map fun _ => (.bl true : D)) = true := by
  induction tr with
  | nil => simp
  | cons x r ih => simpa using ih
@[simp] theorem zss {tr : List zaE} : zis (tD tr) = true := by simp [tD]
@[simp] theorem zqL {tr : List zaE} : zbU (tD tr) = true := by simp [tD]
@[simp] theorem zvg {c : zaE} {tr : List zaE} : zao .nin [cD c, tD tr] = some (.val (.bl (!decide (c ∈ tr)))) := by
  simp only [tD, zao, zom, zkq, if_true, zd7, zfv]
section
variable (f : List zaE) (l : zaE)
noncomputable def nb (c : zaE) : List zaE := f.filter (near l c)
structure Half (ms : Ms) : Prop where
  nd : zqJ ms
  inF : ∀ x y, get ms x = some y → x ∈ f ∧ y ∈ f ∧ near l x y = true
end
section
variable {f : List zaE} {l : zaE}
theorem Half.len {ms : Ms} (h : Half f l ms) : ms.length ≤ f.length := by
  have := zfw (l := ms.map fun (p : zaE × zaE) => p.1) (m := f) h.nd fun x hx => by
    have : (get ms x).isSome = true := by rw [zcC]; simpa using hx
    obtain ⟨y, hy⟩ := Option.isSome_iff_exists.mp this
    exact (h.inF x y hy).1
  simpa using this
@[simp] theorem zt6 {c : zaE} : zjK (.val (cD c)) = some (.e (cD c)) := by simp [cD]
@[simp] theorem zt7 {g : List zaE} : zjK (.val (fD g)) = some (.e (fD g)) := by simp [fD]
structure TrOk (f tr : List zaE) : Prop where
  nd : tr.Nodup
  sub : ∀ x ∈ tr, x ∈ f
theorem TrOk.len {tr : List zaE} (h : TrOk f tr) : tr.length ≤ f.length := zfw h.nd h.sub
theorem TrOk.snoc {tr : List zaE} {o : zaE} (h : TrOk f tr) (ho : o ∈ f) (ht : o ∉ tr) : TrOk f (tr ++ [o]) := by
  refine ⟨?_, fun x hx => ?_⟩
  · rw [List.nodup_append]
    refine ⟨h.nd, by simp, fun a ha b hb e => ?_⟩
    simp at hb; subst hb; subst e; exact ht ha
  · rw [List.mem_append, List.mem_singleton] at hx
    rcases hx with z | rfl
    · exact h.sub x z
    · exact ho
end
end LK
namespace LK
open L2.LW
noncomputable def sig (s t : Int) (w : Bool) (p : zaE) : zaE := if w then (s * p.2, t * p.1) else (s * p.1, t * p.2)
noncomputable def zgy (v : zaE) : zaE := fold v.1 v.2
noncomputable def one (s : Int) : Prop := s = 1 ∨ s = -1
theorem zia {c : Prop} [Decidable c] : one (if c then -1 else 1) := by unfold one; split <;> omega
theorem zib {s : Int} (hs : one s) (a : Int) : zcB (s * a) = zcB a := by
  have a1 := zcr a
  rcases hs with rfl | rfl
  · simp
  · have a2 := zcr (-1 * a); omega
theorem zlP {l p q : zaE} {s t : Int} {w : Bool} (hs : one s) (ht : one t) (h : near l p q = true) : near l (sig s t w p) (sig s t w q) = true := by
  rw [zfx] at h ⊢
  cases w <;> simp only [sig, if_true, Bool.false_eq_true, if_false, ← Int.mul_sub, zib hs, zib ht]
  · exact h
  · omega
theorem zn0 (p : zaE) : ∃ s t w, one s ∧ one t ∧ zgy p = sig s t w p := by
  have a1 := zcr p.1
  have a2 := zcr p.2
  refine ⟨if (if zcB p.1 ≤ zcB p.2 then p.1 else p.2) < 0 then -1 else 1, if (if zcB p.1 ≤ zcB p.2 then p.2 else p.1) < 0 then -1 else 1, !decide (zcB p.1 ≤ zcB p.2), zia, zia, ?_⟩
  unfold zgy fold sig
  by_cases h : zcB p.1 ≤ zcB p.2
  · simp only [h, if_true, decide_true, Bool.not_true, Bool.false_eq_true, if_false, Prod.mk.injEq]
    constructor
    · split <;> omega
    · split <;> omega
  · simp only [h, if_false, decide_false, Bool.not_false, if_true, Prod.mk.injEq]
    constructor
    · split <;> omega
    · split <;> omega
theorem zlQ (p : zaE) : ∃ s t w, one s ∧ one t ∧ p = sig s t w (zgy p) := by
  have a1 := zcr p.1
  have a2 := zcr p.2
  refine ⟨if p.1 < 0 then -1 else 1, if p.2 < 0 then -1 else 1, !decide (zcB p.1 ≤ zcB p.2), zia, zia, ?_⟩
  unfold zgy fold sig
  refine Prod.ext ?_ ?_
  · by_cases h : zcB p.1 ≤ zcB p.2
    · simp only [h, decide_true, Bool.not_true, Bool.false_eq_true, if_false]; split <;> omega
    · simp only [h, decide_false, Bool.not_false, if_true]; split <;> omega
  · by_cases h : zcB p.1 ≤ zcB p.2
    · simp only [h, decide_true, Bool.not_true, Bool.false_eq_true, if_false]; split <;> omega
    · simp only [h, decide_false, Bool.not_false, if_true]; split <;> omega
section
variable (l : zaE)
noncomputable def Bd : Nat → zaE → Prop
  | 0, c => c = (0, 0)
  | k + 1, c => Bd k c ∨ ∃ p, Bd k p ∧ near l p c = true
noncomputable def Lw (k : Nat) (c : zaE) : Prop := Bd l k c ∧ ∀ i, i < k → ¬ Bd l i c
end
section
variable {l : zaE}
theorem Bd.mono : ∀ {k m : Nat} {c : zaE}, k ≤ m → Bd l k c → Bd l m c
  | k, 0, c, h, b => by have : k = 0 := by omega
                        subst this; exact b
  | k, m + 1, c, h, b => by
    by_cases e : k = m + 1
    · subst e; exact b
    · exact .inl (Bd.mono (by omega) b)
theorem Lw.uniq {j k : Nat} {c : zaE} (h : Lw l j c) (h' : Lw l k c) : j = k := by
  rcases Nat.lt_trichotomy j k with z | z | z
  · exact absurd h.1 (h'.2 j z)
  · exact z
  · exact absurd h'.1 (h.2 k z)
theorem Bd.lw {k : Nat} {c : zaE} (h : Bd l k c) : ∃ j, j ≤ k ∧ Lw l j c := by
  induction k with
  | zero => exact ⟨0, Nat.le_refl _, h, fun i hi => by omega⟩
  | succ k ih =>
    by_cases hk : Bd l k c
    · obtain ⟨j, h1, h2⟩ := ih hk
      exact ⟨j, by omega, h2⟩
    · exact ⟨k + 1, Nat.le_refl _, h, fun i hi z => hk (z.mono (by omega))⟩
theorem Bd.sig {s t : Int} {w : Bool} (hs : one s) (ht : one t) : ∀ {k : Nat} {c : zaE}, Bd l k c → Bd l k (LK.sig s t w c)
  | 0, c, h => by
    rw [show c = (0, 0) from h]
    show LK.sig s t w (0, 0) = (0, 0)
    cases w <;> simp [LK.sig]
  | k + 1, c, h => by
    rcases h with h | ⟨p, h1, h2⟩
    · exact .inl (Bd.sig hs ht h)
    · exact .inr ⟨_, Bd.sig hs ht h1, zlP hs ht h2⟩
theorem Bd.fold {k : Nat} {c : zaE} : Bd l k (zgy c) ↔ Bd l k c := by
  constructor
  · intro h
    obtain ⟨s, t, w, h1, h2, e⟩ := zlQ c
    rw [e]; exact h.sig h1 h2
  · intro h
    obtain ⟨s, t, w, h1, h2, e⟩ := zn0 c
    rw [e]; exact h.sig h1 h2
theorem Lw.fold {k : Nat} {c : zaE} : Lw l k (zgy c) ↔ Lw l k c := by
  unfold Lw; simp only [Bd.fold]
theorem Lw.same {k : Nat} {c d : zaE} (h : Lw l k c) (e : zgy d = zgy c) : Lw l k d := by
  rw [← Lw.fold, e, Lw.fold]; exact h
theorem zlR {u p v : zaE} (h : near l p v = true) : near l (u.1 + p.1, u.2 + p.2) (u.1 + v.1, u.2 + v.2) = true := by
  rw [zfx] at h ⊢
  have e1 : u.1 + p.1 - (u.1 + v.1) = p.1 - v.1 := by omega
  have e2 : u.2 + p.2 - (u.2 + v.2) = p.2 - v.2 := by omega
  simp only [e1, e2]; exact h
theorem Bd.add {k : Nat} {u : zaE} (h : Bd l k u) : ∀ {m : Nat} {v : zaE}, Bd l m v → Bd l (k + m) (u.1 + v.1, u.2 + v.2)
  | 0, v, b => by
    rw [show v = (0, 0) from b]
    simpa using h
  | m + 1, v, b => by
    rcases b with b | ⟨p, h1, h2⟩
    · exact .inl (Bd.add h b)
    · exact .inr ⟨_, Bd.add h h1, zlR h2⟩
theorem Bd.mul {k : Nat} {u : zaE} (h : Bd l k u) : ∀ m : Nat, Bd l (m * k) ((m : Int) * u.1, (m : Int) * u.2)
  | 0 => by rw [Nat.zero_mul]; show _ = _; simp
  | m + 1 => by
    have := (Bd.mul h m).add h
    rw [show (m + 1) * k = m * k + k from Nat.succ_mul m k]
    have e1 : ((m + 1 : Nat) : Int) * u.1 = (m : Int) * u.1 + u.1 := by rw [Int.natCast_add]; simp [Int.add_mul]
    have e2 : ((m + 1 : Nat) : Int) * u.2 = (m : Int) * u.2 + u.2 := by rw [Int.natCast_add]; simp [Int.add_mul]
    rw [e1, e2]; exact this
noncomputable def zst : List zaE → zaE
  | [] => (0, 0)
  | p :: r => ((zst r).1 + p.1, (zst r).2 + p.2)
theorem Bd.way : ∀ (ps : List zaE), (∀ p ∈ ps, near l (0, 0) p = true) → Bd l ps.length (zst ps)
  | [], _ => rfl
  | p :: r, h => (Bd.way r fun q hq => h q (List.mem_cons_of_mem _ hq)).add (m := 1) (.inr ⟨(0, 0), rfl, h p List.mem_cons_self⟩)
theorem Lw.prev {k : Nat} {c : zaE} (h : Lw l (k + 1) c) : ∃ p, Lw l k p ∧ near l p c = true := by
  rcases h.1 with z | ⟨p, h1, h2⟩
  · exact absurd z (h.2 k (by omega))
  · refine ⟨p, ⟨h1, fun i hi b => h.2 (i + 1) (by omega) (.inr ⟨p, b, h2⟩)⟩, h2⟩
theorem Lw.hue (hl : OkL l) : ∀ {k : Nat} {c : zaE}, Lw l k c → LK.hue l c = (k : Int) % 2
  | 0, c, h => by
    rw [show c = (0, 0) from h.1]
    unfold LK.hue; simp
  | k + 1, c, h => by
    obtain ⟨p, h1, h2⟩ := h.prev
    have e := Lw.hue hl h1
    have ne := zh9 hl h2
    have := zmP (l := l) c
    have := zmP (l := l) p
    omega
theorem Lw.near {j k : Nat} {c d : zaE} (hl : OkL l) (h : Lw l j c) (h' : Lw l k d) (hn : near l c d = true) : j = k + 1 ∨ k = j + 1 := by
  have h1 : k ≤ j + 1 := by
    obtain ⟨i, hi, h2⟩ := Bd.lw (l := l) (k := j + 1) (c := d) (.inr ⟨c, h.1, hn⟩)
    have := h2.uniq h'; omega
  have h2 : j ≤ k + 1 := by
    obtain ⟨i, hi, h2⟩ := Bd.lw (l := l) (k := k + 1) (c := c) (.inr ⟨d, h'.1, by rw [zkm]; exact hn⟩)
    have := h2.uniq h; omega
  have := zh9 hl hn
  rw [h.hue hl, h'.hue hl] at this
  omega
end
end LK
namespace LK
open L2.LW
noncomputable def zqM (l v : zaE) : Bool := (decide (v.1 % zcc l = 0) && decide (v.2 % zcc l = 0)) && (zks l || decide ((v.1 / zcc l + v.2 / zcc l) % 2 = 0))
theorem Bd.ways {l v : zaE} {s : Nat} (ps : List zaE) (h : ∀ p ∈ ps, near l (0, 0) p = true) (e1 : ps.length = s) (e2 : zst ps = v) : Bd l s v := by
  subst e1; subst e2; exact Bd.way ps h
theorem zlS {l p c : zaE} (hl : OkL l) (hn : near l p c = true) (hp : zqM l p = true) : zqM l c = true := by
  obtain ⟨m, n, s, t, s2, t2, od, ev⟩ := zeW hl hn
  unfold zqM at hp ⊢
  rw [← s2, ← t2]
  rw [Bool.and_eq_true] at hp ⊢
  refine ⟨hp.1, ?_⟩
  have h2 := hp.2
  by_cases z : zks l = true
  · rw [z]; rfl
  · have := ev (by simpa using z)
    rw [show zks l = false by simpa using z, Bool.false_or, decide_eq_true_iff] at h2 ⊢
    omega
theorem Bd.can {l : zaE} (hl : OkL l) : ∀ {k : Nat} {c : zaE}, Bd l k c → zqM l c = true
  | 0, c, h => by
    rw [show c = (0, 0) from h]
    unfold zqM; simp
  | k + 1, c, h => by
    rcases h with h | ⟨p, h1, h2⟩
    · exact h.can hl
    · exact zlS hl h2 (h1.can hl)
end LK
namespace LK
open L2.LW
theorem zn1 {L : List D} {i : Int} (h : 0 ≤ i ∧ i < L.length) : ∃ d ∈ L, zao .idx [.lst L, .int i] = some (.val d) := by
  obtain ⟨k, rfl⟩ := Int.eq_ofNat_of_zero_le h.1
  have hk : k < L.length := by omega
  exact ⟨L[k], List.getElem_mem _, by rw [zmN, atI_nat hk]; rfl⟩
theorem zt8 : zao .ne [.lst [.bl true, .bl true], .lst [.bl true, .bl true]] = some (.val (.bl false)) := by rw [zu5 rfl rfl]; rfl
end LK
namespace LK
open L2.LW
noncomputable def zeX : D → Bool
  | .tup l => decide (l.length = 2)
  | _ => false
noncomputable def zdI (a b : Int) : D → Bool
  | .int i => decide (a ≤ i) && decide (i ≤ b)
  | _ => false
noncomputable def zdV : D → Bool
  | .tup [a, b] => zdI 0 7 a && zdI 0 7 b
  | _ => false
noncomputable def zt9 : D → Bool
  | .tup [a, .int j] => (decide (1 ≤ j) && decide (j ≤ 4)) && zdI 0 j a
  | _ => false
theorem zgz (n : Nat) (d : D) (a b : Int) : zbl U zaO (n + 1) 0 [d, .int a, .int b] = some (.val (.bl (zdI a b d))) := by
  cases d with
  | int i => exact zcT n i a b
  | _ => rw [zaL U0 rfl]; simp [ir0, zcd, zdI]
theorem zc1 (n : Nat) (d : D) : zbl U zaO (n + 1) 1 [d] = some (.val (.bl (zeX d))) := by
  cases d with
  | tup l =>
    rw [zaL U1 rfl]
    have e : (((l.length : Int) == 2)) = decide (l.length = 2) := by
      rw [Bool.eq_iff_iff]; simp; omega
    simp [ir1, zcd, zeX, e]
  | _ => rw [zaL U1 rfl]; simp [ir1, zcd, zeX]
theorem zkt {d : D} (h : zeX d = true) : ∃ a b, d = .tup [a, b] := by
  cases d with
  | tup l =>
    have h : l.length = 2 := by simpa [zeX] using h
    match l, h with
    | [a, b], _ => exact ⟨a, b, rfl⟩
  | _ => cases h
theorem zhz (n : Nat) (d : D) : zbl U zaO (n + 2) 2 [d] = some (.val (.bl (zdV d))) := by
  rw [zaL U2 rfl]
  cases h : zeX d with
  | false =>
    have e : zdV d = false := by
      unfold zdV
      split
      · cases h
      · rfl
    simp [ir2, zc1, h, e]
  | true =>
    obtain ⟨a, b, rfl⟩ := zkt h
    have ia : zao .idx [.tup [a, b], .int 0] = some (.val a) := rfl
    have ib : zao .idx [.tup [a, b], .int 1] = some (.val b) := rfl
    have e : zdV (.tup [a, b]) = (zdI 0 7 a && zdI 0 7 b) := rfl
    rw [e]
    cases h1 : zdI 0 7 a <;> simp [ir2, zc1, h, ia, ib, zgz, h1]
section
variable {f : List zaE} {d : D} (hf : OkF f) (hd : zt9 d = false)
include hf hd
end
end LK
namespace LK
open L2.LW
noncomputable def zic (cs : List zaE) : Bool := (List.range (cs.length - 1)).all fun k => match cs[k]?, cs[k + 1]? with
  | some a, some b => decide (cLt a b)
  | _, _ => true
theorem zfy (n : Nat) {f : List zaE} (hl : f.length ≤ 1000) : zbl U zaO (n + 1) 4 [fD f] = some (.val (.bl (zic f))) := by
  rw [zaL U4 rfl]
  have hl' := zb6
  have e3 : ((f.length : Int) - 1).toNat = f.length - 1 := by omega
  simp only [ir4]
  simp
  rw [zcz (rs := [.val (.int 1), .val (.int f.length)]) (xs := List.range (f.length - 1)) (f := fun (k : Nat) => D.int (1 + (k : Int))) (fun k => .bl (match f[k]?, f[k + 1]? with
    | some a, some b => decide (cLt a b)
    | _, _ => true))]
  · simp -implicitDefEqProofs only [Option.map_some, Option.bind_some, List.map_cons, List.map_nil, zh5]
    rw [zcq]
    rfl
  · simp [fD]
  · rw [zeV ⟨zbZ (by omega) (by omega), zbZ (by omega) (by omega)⟩, e3]
  · simp; omega
  · intro k hk
    rw [List.mem_range] at hk
    have e1 : (1 + (k : Int) - 1) = (k : Int) := by omega
    have e2 : (1 + (k : Int)) = ((k + 1 : Nat) : Int) := by omega
    have hk1 : k < f.length := by omega
    have hk2 : k + 1 < f.length := by omega
    simp [e1]
    rw [zdZ hk1, e2, zdZ hk2]
    simp [hk1, hk2]
inductive NoFl : D → Prop where
  | kind {d : D} (h : zcd .tuple d = false) : NoFl d
  | len {l : List D} (h : ¬ (1 ≤ l.length ∧ l.length ≤ 24)) : NoFl (.tup l)
  | part {l : List D} (h : l.all zdV = false) : NoFl (.tup l)
  | fall {cs : List zaE} (h : zic cs = false) : NoFl (fD cs)
theorem zpD {l : List D} : zao .len [.tup l] = some (.val (.int l.length)) := by simp
theorem zhA (n : Nat) {d : D} (h : NoFl d) : zbl U zaO (n + 3) 5 [d] = some (.val (.bl false)) := by
  have hl' := zb6
  have long : ∀ l : List D, ¬ (1 ≤ l.length ∧ l.length ≤ 24) → zbl U zaO (n + 3) 5 [.tup l] = some (.val (.bl false)) := fun l h => by
    rw [zaL U5 rfl]
    simp only [ir5]
    by_cases h1 : 1 ≤ (l.length : Int)
    · have h2 : ¬ (l.length : Int) ≤ 24 := by omega
      simp -implicitDefEqProofs [zpD, h1, h2, zcd]
    · simp -implicitDefEqProofs [zpD, h1, zcd]
  have cmp : ∀ l : List D, l.length ≤ 24 → evE (zbl U zaO (n + 2)) (.comp false (.cons (.var 0) .nil) (.bl true) (.call 2 (.cons (.var 0) .nil))) [some (.val (.tup l))] = some (.obj true (.lst (l.map fun x => .bl (zdV x)))) := fun l hl => by
    rw [zcz (rs := [.val (.tup l)]) (xs := l) (f := id) (fun x => .bl (zdV x))]
    · simp -implicitDefEqProofs
    · simp -implicitDefEqProofs
    · omega
    · intro x hx
      simp -implicitDefEqProofs [zhz]
  cases h with
  | kind h =>
    rw [zaL U5 rfl]
    simp -implicitDefEqProofs [ir5, h]
  | len h => exact long _ h
  | @part l h =>
    by_cases hb : 1 ≤ l.length ∧ l.length ≤ 24
    · rw [zaL U5 rfl]
      simp only [ir5]
      have h1 : 1 ≤ (l.length : Int) := by omega
      have h2 : (l.length : Int) ≤ 24 := by omega
      have pa : zao .all [.lst (l.map fun x => .bl (zdV x))] = some (.val (.bl false)) := by rw [zcq, h]
      simp -implicitDefEqProofs [zpD, h1, h2, zcd, cmp l hb.2, pa]
    · exact long _ hb
  | @fall cs h =>
    by_cases hb : 1 ≤ cs.length ∧ cs.length ≤ 24
    · rw [zaL U5 rfl]
      simp only [ir5]
      have h1 : 1 ≤ (cs.length : Int) := by omega
      have h2 : (cs.length : Int) ≤ 24 := by omega
      have hr := zfy (n + 1) (f := cs) (by omega)
      rw [h] at hr
      have cm := cmp (cs.map cD) (by simpa using hb.2)
      have pa : zao .all [.lst ((cs.map cD).map fun x => .bl (zdV x))] = some (.val (.bl ((cs.map cD).all zdV))) := zcq
      cases ha : (cs.map cD).all zdV <;> rw [ha] at pa <;> simp -implicitDefEqProofs [zqG, h1, h2]
      all_goals
        rw [show fD cs = .tup (cs.map cD) from rfl] at hr ⊢
        rw [cm]
        simp -implicitDefEqProofs only [Option.map_some, Option.bind_some, List.map_cons, List.map_nil, zh5, zlE]
        rw [pa]
        simp -implicitDefEqProofs [hr]
    · have e : fD cs = .tup (cs.map cD) := rfl
      rw [e]
      exact long _ (by simpa using hb)
theorem zeY (n : Nat) {d : D} (h : NoFl d) : zah U zaO (n + 4) 118 [d] = some (.ex 1) := by
  rw [zaF zvP rfl rfl]
  simp -implicitDefEqProofs [ziD, zhA n h]
section
variable {d : D} (hd : NoFl d)
include hd
theorem zlT (n : Nat) (w : Int) : zah U zaO (n + 7) 121 [.int w, d] = some (.ex 1) := by
  have F := fun m => zeY m hd
  have nc : ∀ a b, zah U zaO (n + 6) 123 [d, a, b] = some (.ex 1) := fun a b => by
    rw [zaF zvT rfl rfl]; simp -implicitDefEqProofs [ziG, F (n + 1)]
  have po : ∀ a, zah U zaO (n + 6) 124 [d, a] = some (.ex 1) := fun a => by
    rw [zaF zvU rfl rfl]; simp -implicitDefEqProofs [ziH, F (n + 1)]
  have ho : ∀ a, zah U zaO (n + 6) 125 [d, a] = some (.ex 1) := fun a => by
    rw [zaF zvV rfl rfl]; simp -implicitDefEqProofs [ziI, F (n + 1)]
  have aw : ∀ m a b c, zah U zaO (m + 5) 127 [d, a, b, c] = some (.ex 1) := fun m a b c => by
    rw [zaF zvX rfl rfl]; simp -implicitDefEqProofs [ziK, F m]
  have fw : ∀ a b c, zah U zaO (n + 6) 126 [d, a, b, c] = some (.ex 1) := fun a b c => by
    rw [zaF zvW rfl rfl]; simp -implicitDefEqProofs [ziJ, aw n]
  have wk : ∀ a, zah U zaO (n + 6) 115 [d, a] = some (.ex 1) := fun a => by
    rw [zaF zvM rfl rfl]; simp -implicitDefEqProofs [ziA, F (n + 1)]
  have rw_ : ∀ a, zah U zaO (n + 6) 116 [d, a] = some (.ex 1) := fun a => by
    rw [zaF zvN rfl rfl]; simp -implicitDefEqProofs [ziB, F (n + 1)]
  have aw1 := aw (n + 1)
  have cl := F (n + 2)
  rw [zaF zvR rfl rfl]
  cases w0 : (w == 0) <;> cases w1 : (w == 1) <;> cases w2 : (w == 2) <;> cases w3 : (w == 3) <;> cases w4 : (w == 4) <;> cases w5 : (w == 5) <;> cases w6 : (w == 6) <;>
    simp -implicitDefEqProofs [ziE, w0, w1, w2, w3, w4, w5, w6, cl, nc, po, ho, fw, wk, rw_, aw1]
theorem zlU (n : Nat) (w : Int) : zah U zaO (n + 7) 122 [.int w, d] = some (.ex 1) := by
  have F := fun m => zeY m hd
  have ct : ∀ a b, zah U zaO (n + 6) 117 [d, a, b] = some (.ex 1) := fun a b => by
    rw [zaF zvO rfl rfl]; simp -implicitDefEqProofs [ziC, F (n + 1)]
  have mp : ∀ a, zah U zaO (n + 6) 128 [d, a] = some (.ex 1) := fun a => by
    rw [zaF zvY rfl rfl]; simp -implicitDefEqProofs [ziL, F (n + 1)]
  have cc : ∀ a b, zah U zaO (n + 5) 134 [d, a, b] = some (.ex 1) := fun a b => by
    rw [zaF zv3 rfl rfl]; simp -implicitDefEqProofs [ziQ, F n]
  have co : ∀ a, zah U zaO (n + 6) 129 [d, a] = some (.ex 1) := fun a => by
    rw [zaF zvZ rfl rfl]; simp -implicitDefEqProofs [ziM, cc]
  have pe : ∀ a, zah U zaO (n + 6) 130 [d, a] = some (.ex 1) := fun a => by
    rw [zaF zv0 rfl rfl]; simp -implicitDefEqProofs [ziN, cc]
  have pa : ∀ a, zah U zaO (n + 6) 131 [d, a] = some (.ex 1) := fun a => by
    rw [zaF zv1 rfl rfl]; simp -implicitDefEqProofs [ziO, F (n + 1)]
  have sh : zah U zaO (n + 6) 132 [d] = some (.ex 1) := by
    rw [zaF zv2 rfl rfl]; simp -implicitDefEqProofs [ziP, F (n + 1)]
  rw [zaF zvS rfl rfl]
  cases w0 : (w == 0) <;> cases w1 : (w == 1) <;> cases w2 : (w == 2) <;> cases w3 : (w == 3) <;> cases w4 : (w == 4) <;>
    simp -implicitDefEqProofs [ziF, w0, w1, w2, w3, w4, ct, mp, co, pe, pa, sh]
theorem zlV (n : Nat) (w : Int) : zbl U zaO (n + 8) 120 [.int w, d] = some (.obj true (.lst [.bl true, .bl true])) := by
  refine zlI ?_
  have h1 := zlT hd n
  have h2 := zlU hd n
  rw [zaF zvQ rfl rfl]
  by_cases h : w < 8
  · simp -implicitDefEqProofs [zhw, h, h1, h2]
    rfl
  · simp -implicitDefEqProofs [zhw, h, h1, h2]
    rfl
end
end LK
namespace LK
open L2.LW
theorem zn2 {f : List zaE} (hf : f.length ≤ 24) {l : List D} (hl : l.length ≤ 10) : zao .addT [fD f, .tup l] = some (.val (.tup (f.map cD ++ l))) := by
  have : (f.map cD).length + l.length ≤ 10000000 := by simp; omega
  simp only [zao, fD, zjI, if_pos this]
theorem zn3 {f : List zaE} (hf : f.length ≤ 24) {l : List D} (hl : l.length ≤ 10) : zao .addT [.tup l, fD f] = some (.val (.tup (l ++ f.map cD))) := by
  have : l.length + (f.map cD).length ≤ 10000000 := by simp; omega
  simp only [zao, fD, zjI, if_pos this]
theorem zku {a b : List D} (h : a.length + b.length ≤ 100) : zao .add [.lst a, .lst b] = some (.obj true (.lst (a ++ b))) := zqh (by have := zb6; omega)
noncomputable def zid (k : Nat) : D := .tup [.int ((k : Int) / 5), .int ((k : Int) % 5)]
theorem zn4 (n : Nat) (a b c : D) (L : List D) : exS (zah U zaO n) zaO (.for_ 5 true (.cons (.int 25) .nil) zh8) [some (.val a), some (.val b), some (.val c), some (.obj true (.lst L)), some (.obj true (.lst [])), none] =
    some (.nx, [some (.val a), some (.val b), some (.val c), some (.obj true (.lst L)), some (.obj true (.lst ((List.range 25).map zid))), some (.val (.int 24))]) := by
  have h5 : (0 : Int) < 5 := by decide
  have hl' := zb6
  have g5 : (0 : Int) < 5 ∧ (5 : Int) < 1073741824 := by decide
  rw [zht]
  simp -implicitDefEqProofs
  rw [zcA (by decide)]
  simp -implicitDefEqProofs only [Option.bind_some]
  obtain ⟨ρ', e1, s5, e2, e3⟩ := zft (i := 5) (a := 0) (m := 25) (body := zbq (zah U zaO n) zaO zh8)
    (fun k ρ => ∃ s5, ρ = [some (.val a), some (.val b), some (.val c), some (.obj true (.lst L)), some (.obj true (.lst ((List.range k).map zid))), s5] ∧ (0 < k → s5 = some (.val (.int ((k : Int) - 1)))))
    (ρ := [some (.val a), some (.val b), some (.val c), some (.obj true (.lst L)), some (.obj true (.lst [])), none]) ⟨none, by simp, by omega⟩ fun k ρ hk zz3 => by
      obtain ⟨s5, e, _⟩ := zz3
      subst e
      refine ⟨.nx, _, ?_, .inl rfl, some (.val (.int (k : Int))), rfl, fun _ => by simp⟩
      have hlt : k < line := by omega
      simp -implicitDefEqProofs [zh8, zhv h5, zqj g5, hlt]
      rw [List.range_succ, List.map_append]
      rfl
  rw [e2, e3 (by decide)] at e1
  exact e1
theorem zfz {cs : List zaE} {k : Nat} {a b : zaE} (h1 : cs[k]? = some a) (h2 : cs[k + 1]? = some b) (h : ¬ cLt a b) : zic cs = false := by
  have hk : k + 1 < cs.length := (List.getElem?_eq_some_iff.mp h2).1
  unfold zic
  rw [List.all_eq_false]
  exact ⟨k, List.mem_range.mpr (by omega), by rw [h1, h2]; simpa using h⟩
theorem zkv (n : Nat) {f : List zaE} (hf : OkF f) (c : Int) : ∃ d, NoFl d ∧ zbl U zaO (n + 1) 88 [fD f, .int c] = some (.val d) := by
  have h18 : (0 : Int) < 18 := by decide
  have hl' := zb6
  have hlen := hf.len
  cases hfe : f with
  | nil => exact absurd hfe hf.ne
  | cons o r =>
    rw [hfe] at hf hlen
    obtain ⟨z, hz, hzl⟩ : ∃ z : zaE, zao .idx [fD (o :: r), .int (-1)] = some (.val (cD z)) ∧ (o :: r)[r.length]? = some z := by
      refine ⟨(o :: r)[r.length]'(by simp), ?_, by simp⟩
      unfold fD
      rw [zkk]
      have e : atI ((o :: r).map cD) (-1) = some (cD ((o :: r)[r.length]'(by simp))) := by
        unfold atI
        have ei : ixN ((o :: r).map cD).length (-1) = some r.length := by
          unfold ixN
          rw [if_neg (by omega), if_pos (by simp only [List.length_map, List.length_cons]; omega)]
          congr 1
          simp only [List.length_map, List.length_cons]
          omega
        rw [ei, Option.bind_some, List.getElem?_map, List.getElem?_eq_getElem (by simp)]
        rfl
      rw [e]; rfl
    have i0 : zao .idx [fD (o :: r), .int 0] = some (.val (cD o)) := by unfold fD; rw [zkk, show (0 : Int) = ((0 : Nat) : Int) from rfl, atI_nat (by simp)]; rfl
    clear hfe
    have ne := hf.ne
    obtain ⟨g, eg⟩ : ∃ g, g = o :: r := ⟨_, rfl⟩
    rw [← eg] at hf hlen hz i0 hzl ne ⊢
    have a1 := fun l h => zn2 (f := g) hlen (l := l) h
    have a2 := fun l h => zn3 (f := g) hlen (l := l) h
    have m2 : zao .mulT [.tup [.tup [.int 0, .int 0]], .int 2] = some (.val (.tup [.tup [.int 0, .int 0], .tup [.int 0, .int 0]])) := by simp [zao, zk8]
    have tl : zao .toList [fD g] = some (.obj true (.lst (g.map cD))) := rfl
    have tt : ∀ l : List D, zao .toTup [.lst l] = some (.val (.tup l)) := fun l => rfl
    have c1 : ([cD z] : List D).length ≤ 10 := by simp
    obtain ⟨d, hd, e1⟩ := zn1 (L := [.lst (g.map cD), .non, .tup [], .int 7, .str "00", .tup (g.map cD ++ [cD z]), .tup (g.map cD ++ [cD (8, 0)]), .tup (.tup [.int (-1), .int 0] :: g.map cD),
      .tup (g.map cD ++ [cD (7, 8)]), .tup (g.map cD ++ [.non]), .tup (g.map cD ++ [.tup [.int 7]]), .tup (g.map cD ++ [.lst [.int 7, .int 7]]), .tup (.tup [.int 0, .bl true] :: g.map cD), .tup (g.map cD ++ [.str "77"]),
      .tup ((List.range 25).map zid), .tup (cD o :: g.map cD), .tup (g.map cD ++ [.tup [.int 0, .int 0], .tup [.int 0, .int 0]]), .tup (g.map cD ++ [.tup [.int 7, .int 7, .int 7]])]) (i := c % 18) ⟨by omega, by simp only [List.length_cons, List.length_nil]; omega⟩
    refine ⟨d, ?_, ?_⟩
    · have gl : g.length = r.length + 1 := by rw [eg]; rfl
      have pt : ∀ {l : List D} {x : D}, x ∈ l → zdV x = false → NoFl (.tup l) := fun {l x} hx hc => .part (by rw [List.all_eq_false]; exact ⟨x, hx, by rw [hc]; exact Bool.false_ne_true⟩)
      simp only [List.mem_cons, List.not_mem_nil, or_false] at hd
      rcases hd with rfl | rfl | rfl | rfl | rfl | rfl | rfl | rfl | rfl | rfl | rfl | rfl | rfl | rfl | rfl | rfl | rfl | rfl
      · exact .kind rfl
      · exact .kind rfl
      · exact .len (by simp)
      · exact .kind rfl
      · exact .kind rfl
      · have e : D.tup (g.map cD ++ [cD z]) = fD (g ++ [z]) := by simp [fD]
        rw [e]
        refine .fall (zfz (k := r.length) (a := z) (b := z) ?_ ?_ zdo)
        · rw [List.getElem?_append_left (by omega)]; exact hzl
        · rw [List.getElem?_append_right (by omega), gl]; simp
      · exact pt (x := cD (8, 0)) (by simp) (by decide)
      · exact pt (x := .tup [.int (-1), .int 0]) (by simp) (by decide)
      · exact pt (x := cD (7, 8)) (by simp) (by decide)
      · exact pt (x := .non) (by simp) rfl
      · exact pt (x := .tup [.int 7]) (by simp) rfl
      · exact pt (x := .lst [.int 7, .int 7]) (by simp) rfl
      · exact pt (x := .tup [.int 0, .bl true]) (by simp) rfl
      · exact pt (x := .str "77") (by simp) rfl
      · exact .len (by simp)
      · have e : D.tup (cD o :: g.map cD) = fD (o :: g) := by simp [fD]
        rw [e]
        refine .fall (zfz (k := 0) (a := o) (b := o) rfl ?_ zdo)
        rw [eg]; rfl
      · have e : D.tup (g.map cD ++ [.tup [.int 0, .int 0], .tup [.int 0, .int 0]]) = fD (g ++ [(0, 0), (0, 0)]) := by simp [fD, cD]
        rw [e]
        refine .fall (zfz (k := g.length) (a := (0, 0)) (b := (0, 0)) ?_ ?_ zdo)
        · rw [List.getElem?_append_right (by omega)]; simp
        · rw [List.getElem?_append_right (by omega)]; simp
      · exact pt (x := .tup [.int 7, .int 7, .int 7]) (by simp) rfl
    · rw [zaL U88 rfl]
      simp -implicitDefEqProofs only [zqA]
      simp -implicitDefEqProofs [i0, hz, a1, a2, tl, zku]
      rw [zn4]
      generalize (List.range 25).map zid = M at *
      simp -implicitDefEqProofs [i0, hz, a1, a2, tl, tt, m2, zku, zhv h18]
      rw [e1]
      simp -implicitDefEqProofs
theorem zn5 (n : Nat) (ns : List Int) : zbl U zaO (n + 9) 92 [sD ns] = some (.val (.bl true)) := by
  rw [zaL U92 rfl]
  have hl' := zb6
  have c0 := zbu (n + 7) ns (k := 0) (by decide)
  have c1 := zbu (n + 7) ns (k := 1) (by decide)
  have h3 : (0 : Int) < 3 := by decide
  obtain ⟨f, hf, _, ef⟩ := zgw (n + 6) ns (at_ := 2) (most := 24) (by decide) (by decide) (by decide)
  have ck := ziT (n + 4) hf
  have eq : zao .eq [fD f, fD f] = some (.val (.bl true)) := by
    rw [ztU (by simp [fD, zbz]) (by simp [fD, zbz])]
    simp [fD, eqD]
  by_cases h0 : zcM ns 0 % 3 = 0
  · have h0' : (zcM ns 0 % 3 == 0) = true := by simpa using h0
    simp -implicitDefEqProofs [zoB, ef, c0, zhv h3, h0', ck, eq]
  · have h0' : (zcM ns 0 % 3 == 0) = false := by simpa using h0
    obtain ⟨d, hd, e1⟩ := zkv (n + 7) hf (zcM ns 1)
    have t1 := zlV hd n
    simp -implicitDefEqProofs only [zoB]
    simp -implicitDefEqProofs [ef, c0, c1, zhv h3, h0', e1]
    rw [zgq (rs := [.val (.int 14)]) (xs := List.range 14) (f := fun (k : Nat) => D.int (0 + (k : Int))) (fun _ => false) (fun k => D.int (k : Int))]
    · rw [List.filter_eq_nil_iff.mpr (fun _ _ => Bool.false_ne_true)]
      simp -implicitDefEqProofs [show zao .eq [.lst [], .lst []] = some (.val (.bl true)) by rw [ztU rfl rfl]; rfl]
    · simp -implicitDefEqProofs
    · rw [zcA (by decide)]; rfl
    · simp; omega
    · intro k hk
      simp -implicitDefEqProofs [t1, zt8]
    · intro k hk z; cases z
theorem zgA (ns : List Int) (_ : ns.length ≤ 63) : zbl U zaO depth 92 [.lst (ns.map D.int)] = some (.val (.bl true)) := zn5 31 ns
end LK
set_option maxHeartbeats 4000000
namespace LK
open PySem PySem.Spec PyProof.Rows L2 L2.LW
noncomputable def top (i : Nat) : Stmt := PySem.Challenge.pw_leaperwalk_k01_floors.main.body.getD i (.Pass ⟨0, 0, 0, 0⟩)
noncomputable def zaA : Nat → List Str
  | 0 => ["thing", "least", "most"]
  | 1 => ["thing"]
  | 2 => ["thing"]
  | 3 => ["thing"]
  | 4 => ["cells"]
  | 5 => ["thing"]
  | 6 => ["floor"]
  | 13 => ["_law_script", "_law_k"]
  | 14 => ["_law_cell_here", "_law_prime", "_law_many"]
  | 15 => ["_law_script", "_law_at", "_law_most"]
  | 88 => ["_law_floor_here", "_law_cell_here"]
  | 92 => ["_law_script"]
  | 112 => ["leap"]
  | 115 => ["floor", "leap"]
  | 116 => ["floor", "leap"]
  | 117 => ["floor", "leap", "spare"]
  | 118 => ["floor"]
  | 119 => ["floor", "most"]
  | 120 => ["_law_way", "_law_bad"]
  | 121 => ["_law_way", "_law_bad"]
  | 122 => ["_law_way", "_law_bad"]
  | 123 => ["floor", "leap", "cell"]
  | 124 => ["floor", "leap"]
  | 125 => ["floor", "leap"]
  | 126 => ["floor", "leap", "one", "other"]
  | 127 => ["floor", "leap", "one", "other"]
  | 128 => ["floor", "leap"]
  | 129 => ["floor", "leap"]
  | 130 => ["floor", "leap"]
  | 131 => ["floor", "leap"]
  | 132 => ["floor"]
  | 133 => ["floor", "cell"]
  | 134 => ["floor", "leap", "covering"]
  | _ => []
noncomputable def zcf : Nat → List Nat
  | _ => []
structure Txt (K : PySem.W.Frag) (mg : Str → Option Value) (F : Nat → Addr) (FD : Nat → FuncData) (TK : Nat → Tok) (CL : Nat → Addr) : Prop where
  y0 : mg "LeapError" = some (.ref (CL 0))
  y1 : mg "BadFloor" = some (.ref (CL 1))
  q1 : zmJ K (CL 1)
  t1 : PySem.W.exmOne K (clV CL 1) (.ref (CL 0)) = some true
  v1 : PySem.W.kitOne K (clV CL 1) (.type "ValueError") = some true
  y2 : mg "BadLeap" = some (.ref (CL 2))
  q2 : zmJ K (CL 2)
  t2 : PySem.W.exmOne K (clV CL 2) (.ref (CL 0)) = some true
  v2 : PySem.W.kitOne K (clV CL 2) (.type "ValueError") = some true
  y3 : mg "NoCell" = some (.ref (CL 3))
  q3 : zmJ K (CL 3)
  t3 : PySem.W.exmOne K (clV CL 3) (.ref (CL 0)) = some true
  v3 : PySem.W.kitOne K (clV CL 3) (.type "ValueError") = some true
  y4 : mg "BadNumber" = some (.ref (CL 4))
  q4 : zmJ K (CL 4)
  t4 : PySem.W.exmOne K (clV CL 4) (.ref (CL 0)) = some true
  v4 : PySem.W.kitOne K (clV CL 4) (.type "ValueError") = some true
  y5 : mg "TooBig" = some (.ref (CL 5))
  q5 : zmJ K (CL 5)
  t5 : PySem.W.exmOne K (clV CL 5) (.ref (CL 0)) = some true
  v5 : PySem.W.kitOne K (clV CL 5) (.type "ValueError") = some true
  m0 : mg "is_whole" = some (.ref (F 0))
  f0 : Fun K "is_whole" "is_whole" (top 11) (F 0) (FD 0)
  b0 : Binds K (FD 0) (zaA 0) []
  m1 : mg "is_couple" = some (.ref (F 1))
  f1 : Fun K "is_couple" "is_couple" (top 12) (F 1) (FD 1)
  b1 : Binds K (FD 1) (zaA 1) []
  m2 : mg "is_cell" = some (.ref (F 2))
  f2 : Fun K "is_cell" "is_cell" (top 13) (F 2) (FD 2)
  b2 : Binds K (FD 2) (zaA 2) []
  m3 : mg "is_leap" = some (.ref (F 3))
  f3 : Fun K "is_leap" "is_leap" (top 14) (F 3) (FD 3)
  b3 : Binds K (FD 3) (zaA 3) []
  m4 : mg "is_rising" = some (.ref (F 4))
  f4 : Fun K "is_rising" "is_rising" (top 15) (F 4) (FD 4)
  b4 : Binds K (FD 4) (zaA 4) []
  m5 : mg "is_floor" = some (.ref (F 5))
  f5 : Fun K "is_floor" "is_floor" (top 16) (F 5) (FD 5)
  b5 : Binds K (FD 5) (zaA 5) []
  m6 : mg "checked" = some (.ref (F 6))
  f6 : Fun K "checked" "checked" (top 17) (F 6) (FD 6)
  b6 : Binds K (FD 6) (zaA 6) []
  m13 : mg "_law_cell" = some (.ref (F 13))
  f13 : Fun K "_law_cell" "_law_cell" (top 65) (F 13) (FD 13)
  b13 : Binds K (FD 13) (zaA 13) []
  m14 : mg "_law_mix" = some (.ref (F 14))
  f14 : Fun K "_law_mix" "_law_mix" (top 66) (F 14) (FD 14)
  b14 : Binds K (FD 14) (zaA 14) []
  m15 : mg "_law_floor" = some (.ref (F 15))
  f15 : Fun K "_law_floor" "_law_floor" (top 67) (F 15) (FD 15)
  b15 : Binds K (FD 15) (zaA 15) []
  m88 : mg "_law_spoilt" = some (.ref (F 88))
  f88 : Fun K "_law_spoilt" "_law_spoilt" (top 68) (F 88) (FD 88)
  b88 : Binds K (FD 88) (zaA 88) []
  m92 : mg "law" = some (.ref (F 92))
  f92 : Fun K "law" "law" (top 72) (F 92) (FD 92)
  b92 : Binds K (FD 92) (zaA 92) []
  m112 : mg "checked_leap" = some (.ref (F 112))
  f112 : Fun K "checked_leap" "checked_leap" (top 18) (F 112) (FD 112)
  b112 : Binds K (FD 112) (zaA 112) []
  m115 : mg "walk" = some (.ref (F 115))
  f115 : Fun K "walk" "walk" (top 56) (F 115) (FD 115)
  b115 : Binds K (FD 115) (zaA 115) []
  m116 : mg "ring_walk" = some (.ref (F 116))
  f116 : Fun K "ring_walk" "ring_walk" (top 57) (F 116) (FD 116)
  b116 : Binds K (FD 116) (zaA 116) []
  m117 : mg "cut_of" = some (.ref (F 117))
  f117 : Fun K "cut_of" "cut_of" (top 60) (F 117) (FD 117)
  b117 : Binds K (FD 117) (zaA 117) []
  m118 : mg "checked" = some (.ref (F 118))
  f118 : Fun K "checked" "checked" (top 17) (F 118) (FD 118)
  b118 : Binds K (FD 118) (zaA 118) []
  m119 : mg "refuse_big" = some (.ref (F 119))
  f119 : Fun K "refuse_big" "refuse_big" (top 50) (F 119) (FD 119)
  b119 : Binds K (FD 119) (zaA 119) []
  m120 : mg "_law_told" = some (.ref (F 120))
  f120 : Fun K "_law_told" "_law_told" (top 71) (F 120) (FD 120)
  b120 : Binds K (FD 120) (zaA 120) []
  m121 : mg "_law_deed" = some (.ref (F 121))
  f121 : Fun K "_law_deed" "_law_deed" (top 69) (F 121) (FD 121)
  b121 : Binds K (FD 121) (zaA 121) []
  m122 : mg "_law_more" = some (.ref (F 122))
  f122 : Fun K "_law_more" "_law_more" (top 70) (F 122) (FD 122)
  b122 : Binds K (FD 122) (zaA 122) []
  m123 : mg "near_cells" = some (.ref (F 123))
  f123 : Fun K "near_cells" "near_cells" (top 30) (F 123) (FD 123)
  b123 : Binds K (FD 123) (zaA 123) []
  m124 : mg "parts_of" = some (.ref (F 124))
  f124 : Fun K "parts_of" "parts_of" (top 31) (F 124) (FD 124)
  b124 : Binds K (FD 124) (zaA 124) []
  m125 : mg "hues_of" = some (.ref (F 125))
  f125 : Fun K "hues_of" "hues_of" (top 32) (F 125) (FD 125)
  b125 : Binds K (FD 125) (zaA 125) []
  m126 : mg "fewest" = some (.ref (F 126))
  f126 : Fun K "fewest" "fewest" (top 63) (F 126) (FD 126)
  b126 : Binds K (FD 126) (zaA 126) []
  m127 : mg "a_way" = some (.ref (F 127))
  f127 : Fun K "a_way" "a_way" (top 62) (F 127) (FD 127)
  b127 : Binds K (FD 127) (zaA 127) []
  m128 : mg "most_pairs" = some (.ref (F 128))
  f128 : Fun K "most_pairs" "most_pairs" (top 40) (F 128) (FD 128)
  b128 : Binds K (FD 128) (zaA 128) []
  m129 : mg "cover" = some (.ref (F 129))
  f129 : Fun K "cover" "cover" (top 41) (F 129) (FD 129)
  b129 : Binds K (FD 129) (zaA 129) []
  m130 : mg "peaceful" = some (.ref (F 130))
  f130 : Fun K "peaceful" "peaceful" (top 42) (F 130) (FD 130)
  b130 : Binds K (FD 130) (zaA 130) []
  m131 : mg "paired" = some (.ref (F 131))
  f131 : Fun K "paired" "paired" (top 43) (F 131) (FD 131)
  b131 : Binds K (FD 131) (zaA 131) []
  m132 : mg "shown" = some (.ref (F 132))
  f132 : Fun K "shown" "shown" (top 46) (F 132) (FD 132)
  b132 : Binds K (FD 132) (zaA 132) []
  m133 : mg "checked_cell" = some (.ref (F 133))
  f133 : Fun K "checked_cell" "checked_cell" (top 19) (F 133) (FD 133)
  b133 : Binds K (FD 133) (zaA 133) []
  m134 : mg "cells_by_cover" = some (.ref (F 134))
  f134 : Fun K "cells_by_cover" "cells_by_cover" (top 39) (F 134) (FD 134)
  b134 : Binds K (FD 134) (zaA 134) []
  z_range : mg "range" = none
  z_len : mg "len" = none
  z_tuple : mg "tuple" = none
  z_list : mg "list" = none
  z_all : mg "all" = none
  z_isinstance : mg "isinstance" = none
  z_int : mg "int" = none
  z_bool : mg "bool" = none
  z_ValueError : mg "ValueError" = none
  c0 : mg "LAST_LINE" = some (.int 7 (TK 0))
  c1 : mg "MOST_CELLS" = some (.int 24 (TK 1))
  c2 : mg "LONGEST_LEAP" = some (.int 4 (TK 2))
  c3 : mg "MOST_TO_WALK" = some (.int 16 (TK 3))
  c4 : mg "MOST_TO_CUT" = some (.int 9 (TK 4))
theorem zaC : (("_law_bad" : Str) == ("__debug__" : Str)) = false := by decide +kernel
theorem zaD : (("_law_bad" : Str) == ("__classdict__" : Str)) = false := by decide +kernel
theorem zay : (("_law_way" : Str) == ("__debug__" : Str)) = false := by decide +kernel
theorem zaz : (("_law_way" : Str) == ("__classdict__" : Str)) = false := by decide +kernel
theorem zgB : (("_law_told" : Str) == ("__debug__" : Str)) = false := by decide +kernel
theorem zaQ : (("_law_script" : Str) == ("__debug__" : Str)) = false := by decide +kernel
theorem zaR : (("_law_script" : Str) == ("__classdict__" : Str)) = false := by decide +kernel
theorem zbj : (("_law_cell" : Str) == ("__debug__" : Str)) = false := by decide +kernel
theorem zak : (("_law_floor_here" : Str) == ("__debug__" : Str)) = false := by decide +kernel
theorem zal : (("_law_floor_here" : Str) == ("__classdict__" : Str)) = false := by decide +kernel
theorem zeA : (("_law_spoilt" : Str) == ("__debug__" : Str)) = false := by decide +kernel
theorem zaS : (("checked" : Str) == ("__debug__" : Str)) = false := by decide +kernel
theorem zfA : (("_law_floor" : Str) == ("__debug__" : Str)) = false := by decide +kernel
theorem zc2 : (("_law_k" : Str) == ("__debug__" : Str)) = false := by decide +kernel
theorem zc3 : (("_law_k" : Str) == ("__classdict__" : Str)) = false := by decide +kernel
theorem zie : (("len" : Str) == ("__debug__" : Str)) = false := by decide +kernel
theorem zif : ("len" : Str) ≠ "__name__" := by decide +kernel
theorem zbP : (("_law_some" : Str) == ("__debug__" : Str)) = false := by decide +kernel
theorem zbQ : (("_law_some" : Str) == ("__classdict__" : Str)) = false := by decide +kernel
theorem za2 : (("_law_cell_here" : Str) == ("__debug__" : Str)) = false := by decide +kernel
theorem za3 : (("_law_cell_here" : Str) == ("__classdict__" : Str)) = false := by decide +kernel
theorem zfB : (("_law_first" : Str) == ("__debug__" : Str)) = false := by decide +kernel
theorem zfC : (("_law_first" : Str) == ("__classdict__" : Str)) = false := by decide +kernel
theorem zcs : (("_law_many" : Str) == ("__debug__" : Str)) = false := by decide +kernel
theorem zct : (("_law_many" : Str) == ("__classdict__" : Str)) = false := by decide +kernel
theorem zd0 : (("tuple" : Str) == ("__debug__" : Str)) = false := by decide +kernel
theorem zd1 : ("tuple" : Str) ≠ "__name__" := by decide +kernel
theorem zn6 : (("list" : Str) == ("__debug__" : Str)) = false := by decide +kernel
theorem zn7 : ("list" : Str) ≠ "__name__" := by decide +kernel
theorem zaI : (("floor" : Str) == ("__debug__" : Str)) = false := by decide +kernel
theorem zaJ : (("floor" : Str) == ("__classdict__" : Str)) = false := by decide +kernel
theorem zek : (("is_floor" : Str) == ("__debug__" : Str)) = false := by decide +kernel
theorem zb7 : (("_law_found" : Str) == ("__debug__" : Str)) = false := by decide +kernel
theorem zb8 : (("_law_found" : Str) == ("__classdict__" : Str)) = false := by decide +kernel
theorem zgC : (("_law_most" : Str) == ("__debug__" : Str)) = false := by decide +kernel
theorem zgD : (("_law_most" : Str) == ("__classdict__" : Str)) = false := by decide +kernel
theorem zc4 : (("_law_right" : Str) == ("__debug__" : Str)) = false := by decide +kernel
theorem zc5 : (("_law_right" : Str) == ("__classdict__" : Str)) = false := by decide +kernel
theorem zdJ : (("_law_down" : Str) == ("__debug__" : Str)) = false := by decide +kernel
theorem zdK : (("_law_down" : Str) == ("__classdict__" : Str)) = false := by decide +kernel
theorem zdL : (("_law_rows" : Str) == ("__debug__" : Str)) = false := by decide +kernel
theorem zdM : (("_law_rows" : Str) == ("__classdict__" : Str)) = false := by decide +kernel
theorem zdN : (("_law_wide" : Str) == ("__debug__" : Str)) = false := by decide +kernel
theorem zdO : (("_law_wide" : Str) == ("__classdict__" : Str)) = false := by decide +kernel
theorem zgE : (("_law_seed" : Str) == ("__debug__" : Str)) = false := by decide +kernel
theorem zgF : (("_law_seed" : Str) == ("__classdict__" : Str)) = false := by decide +kernel
theorem zbw : (("_law_mix" : Str) == ("__debug__" : Str)) = false := by decide +kernel
theorem zc6 : (("_law_c" : Str) == ("__debug__" : Str)) = false := by decide +kernel
theorem zc7 : (("_law_c" : Str) == ("__classdict__" : Str)) = false := by decide +kernel
theorem zc8 : (("_law_r" : Str) == ("__debug__" : Str)) = false := by decide +kernel
theorem zc9 : (("_law_r" : Str) == ("__classdict__" : Str)) = false := by decide +kernel
theorem zcD : (("_law_at" : Str) == ("__debug__" : Str)) = false := by decide +kernel
theorem zcE : (("_law_at" : Str) == ("__classdict__" : Str)) = false := by decide +kernel
theorem zaZ : (("thing" : Str) == ("__debug__" : Str)) = false := by decide +kernel
theorem za0 : (("thing" : Str) == ("__classdict__" : Str)) = false := by decide +kernel
theorem zgG : (("is_rising" : Str) == ("__debug__" : Str)) = false := by decide +kernel
theorem zn8 : (("part" : Str) == ("__debug__" : Str)) = false := by decide +kernel
theorem zn9 : (("part" : Str) == ("__classdict__" : Str)) = false := by decide +kernel
theorem zeZ : (("is_cell" : Str) == ("__debug__" : Str)) = false := by decide +kernel
theorem zmQ : (("all" : Str) == ("__debug__" : Str)) = false := by decide +kernel
theorem zmR : ("all" : Str) ≠ "__name__" := by decide +kernel
theorem zfD : (("MOST_CELLS" : Str) == ("__debug__" : Str)) = false := by decide +kernel
theorem zfE : (("_law_prime" : Str) == ("__debug__" : Str)) = false := by decide +kernel
theorem zfF : (("_law_prime" : Str) == ("__classdict__" : Str)) = false := by decide +kernel
theorem zfG : (("cells" : Str) == ("__debug__" : Str)) = false := by decide +kernel
theorem zfH : (("cells" : Str) == ("__classdict__" : Str)) = false := by decide +kernel
theorem zig : (("place" : Str) == ("__debug__" : Str)) = false := by decide +kernel
theorem zih : (("place" : Str) == ("__classdict__" : Str)) = false := by decide +kernel
theorem zdP : (("LAST_LINE" : Str) == ("__debug__" : Str)) = false := by decide +kernel
theorem zbJ : (("is_whole" : Str) == ("__debug__" : Str)) = false := by decide +kernel
theorem zdQ : (("is_couple" : Str) == ("__debug__" : Str)) = false := by decide +kernel
theorem zlW : (("least" : Str) == ("__debug__" : Str)) = false := by decide +kernel
theorem zlX : (("least" : Str) == ("__classdict__" : Str)) = false := by decide +kernel
theorem zoa : (("most" : Str) == ("__debug__" : Str)) = false := by decide +kernel
theorem zob : (("most" : Str) == ("__classdict__" : Str)) = false := by decide +kernel
theorem zqN : (("int" : Str) == ("__debug__" : Str)) = false := by decide +kernel
theorem zqO : ("int" : Str) ≠ "__name__" := by decide +kernel
theorem zoc : (("bool" : Str) == ("__debug__" : Str)) = false := by decide +kernel
theorem zod : ("bool" : Str) ≠ "__name__" := by decide +kernel
theorem zgH : (("_law_deed" : Str) == ("__debug__" : Str)) = false := by decide +kernel
theorem zgI : (("_law_more" : Str) == ("__debug__" : Str)) = false := by decide +kernel
theorem zvh : (("e" : Str) == ("__debug__" : Str)) = false := by decide +kernel
theorem zvi : (("e" : Str) == ("__classdict__" : Str)) = false := by decide +kernel
theorem zel : (("BadFloor" : Str) == ("__debug__" : Str)) = false := by decide +kernel
theorem zgJ : (("LeapError" : Str) == ("__debug__" : Str)) = false := by decide +kernel
theorem zfI : (("near_cells" : Str) == ("__debug__" : Str)) = false := by decide +kernel
theorem zhB : (("parts_of" : Str) == ("__debug__" : Str)) = false := by decide +kernel
theorem ziU : (("hues_of" : Str) == ("__debug__" : Str)) = false := by decide +kernel
theorem zkw : (("fewest" : Str) == ("__debug__" : Str)) = false := by decide +kernel
theorem zii : (("a_way" : Str) == ("__debug__" : Str)) = false := by decide +kernel
theorem zoe : (("walk" : Str) == ("__debug__" : Str)) = false := by decide +kernel
theorem zgK : (("ring_walk" : Str) == ("__debug__" : Str)) = false := by decide +kernel
theorem zkx : (("cut_of" : Str) == ("__debug__" : Str)) = false := by decide +kernel
theorem zfJ : (("most_pairs" : Str) == ("__debug__" : Str)) = false := by decide +kernel
theorem zlY : (("cover" : Str) == ("__debug__" : Str)) = false := by decide +kernel
theorem zhC : (("peaceful" : Str) == ("__debug__" : Str)) = false := by decide +kernel
theorem zky : (("paired" : Str) == ("__debug__" : Str)) = false := by decide +kernel
theorem zlZ : (("shown" : Str) == ("__debug__" : Str)) = false := by decide +kernel
theorem zbg : (("leap" : Str) == ("__debug__" : Str)) = false := by decide +kernel
theorem zbh : (("leap" : Str) == ("__classdict__" : Str)) = false := by decide +kernel
theorem zaH : (("checked_leap" : Str) == ("__debug__" : Str)) = false := by decide +kernel
theorem zfK : (("cell" : Str) == ("__debug__" : Str)) = false := by decide +kernel
theorem zfL : (("cell" : Str) == ("__classdict__" : Str)) = false := by decide +kernel
theorem zbK : (("checked_cell" : Str) == ("__debug__" : Str)) = false := by decide +kernel
theorem zij : (("other" : Str) == ("__debug__" : Str)) = false := by decide +kernel
theorem zik : (("other" : Str) == ("__classdict__" : Str)) = false := by decide +kernel
theorem zmS : (("one" : Str) == ("__debug__" : Str)) = false := by decide +kernel
theorem zmT : (("one" : Str) == ("__classdict__" : Str)) = false := by decide +kernel
theorem zcu : (("MOST_TO_WALK" : Str) == ("__debug__" : Str)) = false := by decide +kernel
theorem zb9 : (("refuse_big" : Str) == ("__debug__" : Str)) = false := by decide +kernel
theorem zeB : (("MOST_TO_CUT" : Str) == ("__debug__" : Str)) = false := by decide +kernel
theorem zl0 : (("spare" : Str) == ("__debug__" : Str)) = false := by decide +kernel
theorem zl1 : (("spare" : Str) == ("__classdict__" : Str)) = false := by decide +kernel
theorem zgL : (("BadNumber" : Str) == ("__debug__" : Str)) = false := by decide +kernel
theorem zb0 : (("cells_by_cover" : Str) == ("__debug__" : Str)) = false := by decide +kernel
theorem ziV : (("is_leap" : Str) == ("__debug__" : Str)) = false := by decide +kernel
theorem ziW : (("BadLeap" : Str) == ("__debug__" : Str)) = false := by decide +kernel
theorem zem : (("LONGEST_LEAP" : Str) == ("__debug__" : Str)) = false := by decide +kernel
theorem zkz : (("NoCell" : Str) == ("__debug__" : Str)) = false := by decide +kernel
theorem sc0 : FnScope ["thing", "least", "most"] ["thing", "least", "most"] (zaa (top 11)) := ⟨rfl, rfl, rfl, by decide +kernel, rfl, by decide +kernel, by decide +kernel⟩
theorem zl2 : Vis (zaa (top 11)) "least" := .inl (by decide +kernel)
theorem zfM : Vis (zaa (top 11)) "thing" := .inl (by decide +kernel)
theorem zof : Vis (zaa (top 11)) "most" := .inl (by decide +kernel)
theorem zda : (zaa (top 11)).names.lookup ("isinstance" : Str) = some .globalImplicit := by decide +kernel
theorem zqP : (zaa (top 11)).names.lookup ("int" : Str) = some .globalImplicit := by decide +kernel
theorem zog : (zaa (top 11)).names.lookup ("bool" : Str) = some .globalImplicit := by decide +kernel
theorem sc1 : FnScope ["thing"] ["thing"] (zaa (top 12)) := ⟨rfl, rfl, rfl, by decide +kernel, rfl, by decide +kernel, by decide +kernel⟩
theorem zil : Vis (zaa (top 12)) "thing" := .inl (by decide +kernel)
theorem zqQ : (zaa (top 12)).names.lookup ("len" : Str) = some .globalImplicit := by decide +kernel
theorem zfN : (zaa (top 12)).names.lookup ("isinstance" : Str) = some .globalImplicit := by decide +kernel
theorem zl3 : (zaa (top 12)).names.lookup ("tuple" : Str) = some .globalImplicit := by decide +kernel
theorem sc2 : FnScope ["thing"] ["thing"] (zaa (top 13)) := ⟨rfl, rfl, rfl, by decide +kernel, rfl, by decide +kernel, by decide +kernel⟩
theorem zfO : Vis (zaa (top 13)) "thing" := .inl (by decide +kernel)
theorem zdR : (zaa (top 13)).names.lookup ("LAST_LINE" : Str) = some .globalImplicit := by decide +kernel
theorem zen : (zaa (top 13)).names.lookup ("is_whole" : Str) = some .globalImplicit := by decide +kernel
theorem zgM : (zaa (top 13)).names.lookup ("is_couple" : Str) = some .globalImplicit := by decide +kernel
theorem sc3 : FnScope ["thing"] ["thing"] (zaa (top 14)) := ⟨rfl, rfl, rfl, by decide +kernel, rfl, by decide +kernel, by decide +kernel⟩
theorem zd2 : Vis (zaa (top 14)) "thing" := .inl (by decide +kernel)
theorem zeo : (zaa (top 14)).names.lookup ("is_whole" : Str) = some .globalImplicit := by decide +kernel
theorem zep : (zaa (top 14)).names.lookup ("LONGEST_LEAP" : Str) = some .globalImplicit := by decide +kernel
theorem zgN : (zaa (top 14)).names.lookup ("is_couple" : Str) = some .globalImplicit := by decide +kernel
theorem sc4 : FnScope ["cells"] ["cells"] (zaa (top 15)) := ⟨rfl, rfl, rfl, by decide +kernel, rfl, by decide +kernel, by decide +kernel⟩
theorem zl4 : Vis (zaa (top 15)) "cells" := .inr (.inl (by decide +kernel))
theorem zqR : (zaa (top 15)).names.lookup ("len" : Str) = some .globalImplicit := by decide +kernel
theorem zl5 : (zaa (top 15)).names.lookup ("range" : Str) = some .globalImplicit := by decide +kernel
theorem zqS : (zaa (top 15)).names.lookup ("all" : Str) = some .globalImplicit := by decide +kernel
theorem sc5 : FnScope ["thing"] ["thing"] (zaa (top 16)) := ⟨rfl, rfl, rfl, by decide +kernel, rfl, by decide +kernel, by decide +kernel⟩
theorem zd3 : Vis (zaa (top 16)) "thing" := .inl (by decide +kernel)
theorem zgO : (zaa (top 16)).names.lookup ("is_rising" : Str) = some .globalImplicit := by decide +kernel
theorem zqT : (zaa (top 16)).names.lookup ("all" : Str) = some .globalImplicit := by decide +kernel
theorem zqU : (zaa (top 16)).names.lookup ("len" : Str) = some .globalImplicit := by decide +kernel
theorem zfP : (zaa (top 16)).names.lookup ("MOST_CELLS" : Str) = some .globalImplicit := by decide +kernel
theorem zfQ : (zaa (top 16)).names.lookup ("isinstance" : Str) = some .globalImplicit := by decide +kernel
theorem zl6 : (zaa (top 16)).names.lookup ("tuple" : Str) = some .globalImplicit := by decide +kernel
theorem sc6 : FnScope ["floor"] ["floor"] (zaa (top 17)) := ⟨rfl, rfl, rfl, by decide +kernel, rfl, by decide +kernel, by decide +kernel⟩
theorem zim : Vis (zaa (top 17)) "floor" := .inl (by decide +kernel)
theorem zhD : (zaa (top 17)).names.lookup ("is_floor" : Str) = some .globalImplicit := by decide +kernel
theorem zv8 : FnScope ["_law_script", "_law_k"] ["_law_script", "_law_k"] (zaa (top 65)) := ⟨rfl, rfl, rfl, by decide +kernel, rfl, by decide +kernel, by decide +kernel⟩
theorem ze0 : Vis (zaa (top 65)) "_law_k" := .inl (by decide +kernel)
theorem zcv : Vis (zaa (top 65)) "_law_script" := .inl (by decide +kernel)
theorem zoh : (zaa (top 65)).names.lookup ("len" : Str) = some .globalImplicit := by decide +kernel
theorem zv9 : FnScope ["_law_cell_here", "_law_prime", "_law_many"] ["_law_cell_here", "_law_prime", "_law_many"] (zaa (top 66)) := ⟨rfl, rfl, rfl, by decide +kernel, rfl, by decide +kernel, by decide +kernel⟩
theorem zdb : Vis (zaa (top 66)) "_law_cell_here" := .inl (by decide +kernel)
theorem zeC : Vis (zaa (top 66)) "_law_prime" := .inl (by decide +kernel)
theorem zfR : Vis (zaa (top 66)) "_law_many" := .inl (by decide +kernel)
theorem zjk : FnScope ["_law_script", "_law_at", "_law_most", "_law_cell_here", "_law_rows", "_law_wide", "_law_down", "_law_right", "_law_way", "_law_found", "_law_r", "_law_c", "_law_seed"] ["_law_script", "_law_at", "_law_most"] (zaa (top 67)) := ⟨rfl, rfl, rfl, by decide +kernel, rfl, by decide +kernel, by decide +kernel⟩
theorem zbT : Vis (zaa (top 67)) "_law_found" := .inl (by decide +kernel)
theorem zfS : Vis (zaa (top 67)) "_law_most" := .inl (by decide +kernel)
theorem zcN : Vis (zaa (top 67)) "_law_right" := .inl (by decide +kernel)
theorem zdc : Vis (zaa (top 67)) "_law_down" := .inl (by decide +kernel)
theorem zdd : Vis (zaa (top 67)) "_law_rows" := .inl (by decide +kernel)
theorem zde : Vis (zaa (top 67)) "_law_wide" := .inl (by decide +kernel)
theorem zdS : Vis (zaa (top 67)) "_law_way" := .inl (by decide +kernel)
theorem zfT : Vis (zaa (top 67)) "_law_seed" := .inl (by decide +kernel)
theorem zcF : Vis (zaa (top 67)) "_law_c" := .inl (by decide +kernel)
theorem zcG : Vis (zaa (top 67)) "_law_r" := .inl (by decide +kernel)
theorem zca : Vis (zaa (top 67)) "_law_at" := .inl (by decide +kernel)
theorem zbm : Vis (zaa (top 67)) "_law_script" := .inl (by decide +kernel)
theorem zbn : Vis (zaa (top 67)) "_law_cell_here" := .inl (by decide +kernel)
theorem zcO : Loc (zaa (top 67)) "_law_found" := .inl (by decide +kernel)
theorem zfU : Loc (zaa (top 67)) "_law_seed" := .inl (by decide +kernel)
theorem ziX : Loc (zaa (top 67)) "_law_c" := .inl (by decide +kernel)
theorem ziY : Loc (zaa (top 67)) "_law_r" := .inl (by decide +kernel)
theorem zgP : Loc (zaa (top 67)) "_law_way" := .inl (by decide +kernel)
theorem zeD : Loc (zaa (top 67)) "_law_right" := .inl (by decide +kernel)
theorem zfV : Loc (zaa (top 67)) "_law_down" := .inl (by decide +kernel)
theorem zfW : Loc (zaa (top 67)) "_law_wide" := .inl (by decide +kernel)
theorem zfX : Loc (zaa (top 67)) "_law_rows" := .inl (by decide +kernel)
theorem zdf : Loc (zaa (top 67)) "_law_cell_here" := .inl (by decide +kernel)
theorem zkA : (zaa (top 67)).names.lookup ("tuple" : Str) = some .globalImplicit := by decide +kernel
theorem zgQ : (zaa (top 67)).names.lookup ("range" : Str) = some .globalImplicit := by decide +kernel
theorem zbk : (zaa (top 67)).names.lookup ("_law_mix" : Str) = some .globalImplicit := by decide +kernel
theorem zbD : (zaa (top 67)).names.lookup ("_law_cell" : Str) = some .globalImplicit := by decide +kernel
theorem zmU : FnScope ["_law_floor_here", "_law_cell_here", "_law_first", "_law_some", "_law_many", "_law_k"] ["_law_floor_here", "_law_cell_here"] (zaa (top 68)) := ⟨rfl, rfl, rfl, by decide +kernel, rfl, by decide +kernel, by decide +kernel⟩
theorem zbE : Vis (zaa (top 68)) "_law_some" := .inl (by decide +kernel)
theorem zdg : Vis (zaa (top 68)) "_law_cell_here" := .inl (by decide +kernel)
theorem zaq : Vis (zaa (top 68)) "_law_floor_here" := .inl (by decide +kernel)
theorem zeE : Vis (zaa (top 68)) "_law_first" := .inl (by decide +kernel)
theorem zdh : Vis (zaa (top 68)) "_law_many" := .inl (by decide +kernel)
theorem ze1 : Vis (zaa (top 68)) "_law_k" := .inl (by decide +kernel)
theorem zbF : Loc (zaa (top 68)) "_law_some" := .inl (by decide +kernel)
theorem ziZ : Loc (zaa (top 68)) "_law_k" := .inl (by decide +kernel)
theorem zfY : Loc (zaa (top 68)) "_law_many" := .inl (by decide +kernel)
theorem zeF : Loc (zaa (top 68)) "_law_first" := .inl (by decide +kernel)
theorem zkB : (zaa (top 68)).names.lookup ("tuple" : Str) = some .globalImplicit := by decide +kernel
theorem zkC : (zaa (top 68)).names.lookup ("range" : Str) = some .globalImplicit := by decide +kernel
theorem zl7 : (zaa (top 68)).names.lookup ("list" : Str) = some .globalImplicit := by decide +kernel
theorem zua : FnScope ["_law_script", "_law_floor_here", "_law_bad"] ["_law_script"] (zaa (top 72)) := ⟨rfl, rfl, rfl, by decide +kernel, rfl, by decide +kernel, by decide +kernel⟩
theorem zbL : Vis (zaa (top 72)) "_law_script" := .inl (by decide +kernel)
theorem zbi : Vis (zaa (top 72)) "_law_floor_here" := .inl (by decide +kernel)
theorem zgR : Loc (zaa (top 72)) "_law_bad" := .inr (by decide +kernel)
theorem zcU : Loc (zaa (top 72)) "_law_floor_here" := .inl (by decide +kernel)
theorem zkD : (zaa (top 72)).names.lookup ("range" : Str) = some .globalImplicit := by decide +kernel
theorem zdi : (zaa (top 72)).names.lookup ("_law_cell" : Str) = some .globalImplicit := by decide +kernel
theorem zeq : (zaa (top 72)).names.lookup ("_law_spoilt" : Str) = some .globalImplicit := by decide +kernel
theorem zhE : (zaa (top 72)).names.lookup ("checked" : Str) = some .globalImplicit := by decide +kernel
theorem zeG : (zaa (top 72)).names.lookup ("_law_floor" : Str) = some .globalImplicit := by decide +kernel
theorem zub : FnScope ["leap"] ["leap"] (zaa (top 18)) := ⟨rfl, rfl, rfl, by decide +kernel, rfl, by decide +kernel, by decide +kernel⟩
theorem zgS : Vis (zaa (top 18)) "leap" := .inl (by decide +kernel)
theorem zgT : (zaa (top 18)).names.lookup ("is_leap" : Str) = some .globalImplicit := by decide +kernel
theorem zgU : (zaa (top 18)).names.lookup ("BadLeap" : Str) = some .globalImplicit := by decide +kernel
theorem zuc : FnScope ["floor", "leap", "near", "anywhere"] ["floor", "leap"] (zaa (top 56)) := ⟨rfl, rfl, rfl, by decide +kernel, rfl, by decide +kernel, by decide +kernel⟩
theorem ze2 : Vis (zaa (top 56)) "floor" := .inr (.inl (by decide +kernel))
theorem zkE : Vis (zaa (top 56)) "leap" := .inr (.inl (by decide +kernel))
theorem zgV : (zaa (top 56)).names.lookup ("checked" : Str) = some .globalImplicit := by decide +kernel
theorem zdp : (zaa (top 56)).names.lookup ("checked_leap" : Str) = some .globalImplicit := by decide +kernel
theorem zdq : (zaa (top 56)).names.lookup ("MOST_TO_WALK" : Str) = some .globalImplicit := by decide +kernel
theorem zer : (zaa (top 56)).names.lookup ("refuse_big" : Str) = some .globalImplicit := by decide +kernel
theorem zud : FnScope ["floor", "leap", "near"] ["floor", "leap"] (zaa (top 57)) := ⟨rfl, rfl, rfl, by decide +kernel, rfl, by decide +kernel, by decide +kernel⟩
theorem ze3 : Vis (zaa (top 57)) "floor" := .inr (.inl (by decide +kernel))
theorem zkF : Vis (zaa (top 57)) "leap" := .inr (.inl (by decide +kernel))
theorem zgW : (zaa (top 57)).names.lookup ("checked" : Str) = some .globalImplicit := by decide +kernel
theorem zdr : (zaa (top 57)).names.lookup ("checked_leap" : Str) = some .globalImplicit := by decide +kernel
theorem zds : (zaa (top 57)).names.lookup ("MOST_TO_WALK" : Str) = some .globalImplicit := by decide +kernel
theorem zes : (zaa (top 57)).names.lookup ("refuse_big" : Str) = some .globalImplicit := by decide +kernel
theorem zue : FnScope ["floor", "leap", "spare", "cuts", "cut"] ["floor", "leap", "spare"] (zaa (top 60)) := ⟨rfl, rfl, rfl, by decide +kernel, rfl, by decide +kernel, by decide +kernel⟩
theorem ze4 : Vis (zaa (top 60)) "floor" := .inl (by decide +kernel)
theorem zkG : Vis (zaa (top 60)) "leap" := .inl (by decide +kernel)
theorem zi0 : Vis (zaa (top 60)) "spare" := .inl (by decide +kernel)
theorem zgX : (zaa (top 60)).names.lookup ("checked" : Str) = some .globalImplicit := by decide +kernel
theorem zdt : (zaa (top 60)).names.lookup ("checked_leap" : Str) = some .globalImplicit := by decide +kernel
theorem zdW : (zaa (top 60)).names.lookup ("MOST_TO_CUT" : Str) = some .globalImplicit := by decide +kernel
theorem zet : (zaa (top 60)).names.lookup ("refuse_big" : Str) = some .globalImplicit := by decide +kernel
theorem zfZ : (zaa (top 60)).names.lookup ("is_whole" : Str) = some .globalImplicit := by decide +kernel
theorem zeH : (zaa (top 60)).names.lookup ("BadNumber" : Str) = some .globalImplicit := by decide +kernel
theorem zuf : FnScope ["floor"] ["floor"] (zaa (top 17)) := ⟨rfl, rfl, rfl, by decide +kernel, rfl, by decide +kernel, by decide +kernel⟩
theorem ze5 : Vis (zaa (top 17)) "floor" := .inl (by decide +kernel)
theorem zf0 : (zaa (top 17)).names.lookup ("is_floor" : Str) = some .globalImplicit := by decide +kernel
theorem zf1 : (zaa (top 17)).names.lookup ("BadFloor" : Str) = some .globalImplicit := by decide +kernel
theorem zug : FnScope ["floor", "most"] ["floor", "most"] (zaa (top 50)) := ⟨rfl, rfl, rfl, by decide +kernel, rfl, by decide +kernel, by decide +kernel⟩
theorem zqV : FnScope ["_law_way", "_law_bad", "e"] ["_law_way", "_law_bad"] (zaa (top 71)) := ⟨rfl, rfl, rfl, by decide +kernel, rfl, by decide +kernel, by decide +kernel⟩
theorem zcb : Vis (zaa (top 71)) "_law_way" := .inl (by decide +kernel)
theorem zdj : Vis (zaa (top 71)) "_law_bad" := .inl (by decide +kernel)
theorem zmV : Vis (zaa (top 71)) "e" := .inl (by decide +kernel)
theorem zoi : (zaa (top 71)).names.lookup ("e" : Str) = some .local := by decide +kernel
theorem zeI : (zaa (top 71)).names.lookup ("_law_deed" : Str) = some .globalImplicit := by decide +kernel
theorem zeJ : (zaa (top 71)).names.lookup ("_law_more" : Str) = some .globalImplicit := by decide +kernel
theorem zcw : (zaa (top 71)).names.lookup ("isinstance" : Str) = some .globalImplicit := by decide +kernel
theorem zf2 : (zaa (top 71)).names.lookup ("BadFloor" : Str) = some .globalImplicit := by decide +kernel
theorem zeu : (zaa (top 71)).names.lookup ("ValueError" : Str) = some .globalImplicit := by decide +kernel
theorem zeK : (zaa (top 71)).names.lookup ("LeapError" : Str) = some .globalImplicit := by decide +kernel
theorem zuh : FnScope ["_law_way", "_law_bad"] ["_law_way", "_law_bad"] (zaa (top 69)) := ⟨rfl, rfl, rfl, by decide +kernel, rfl, by decide +kernel, by decide +kernel⟩
theorem za7 : Vis (zaa (top 69)) "_law_way" := .inl (by decide +kernel)
theorem zaX : Vis (zaa (top 69)) "_law_bad" := .inl (by decide +kernel)
theorem zgY : (zaa (top 69)).names.lookup ("checked" : Str) = some .globalImplicit := by decide +kernel
theorem zev : (zaa (top 69)).names.lookup ("near_cells" : Str) = some .globalImplicit := by decide +kernel
theorem zf3 : (zaa (top 69)).names.lookup ("parts_of" : Str) = some .globalImplicit := by decide +kernel
theorem zgZ : (zaa (top 69)).names.lookup ("hues_of" : Str) = some .globalImplicit := by decide +kernel
theorem zhF : (zaa (top 69)).names.lookup ("fewest" : Str) = some .globalImplicit := by decide +kernel
theorem zi1 : (zaa (top 69)).names.lookup ("a_way" : Str) = some .globalImplicit := by decide +kernel
theorem zkH : (zaa (top 69)).names.lookup ("walk" : Str) = some .globalImplicit := by decide +kernel
theorem zeL : (zaa (top 69)).names.lookup ("ring_walk" : Str) = some .globalImplicit := by decide +kernel
theorem zui : FnScope ["_law_way", "_law_bad"] ["_law_way", "_law_bad"] (zaa (top 70)) := ⟨rfl, rfl, rfl, by decide +kernel, rfl, by decide +kernel, by decide +kernel⟩
theorem zbo : Vis (zaa (top 70)) "_law_way" := .inl (by decide +kernel)
theorem zbb : Vis (zaa (top 70)) "_law_bad" := .inl (by decide +kernel)
theorem zhG : (zaa (top 70)).names.lookup ("cut_of" : Str) = some .globalImplicit := by decide +kernel
theorem zew : (zaa (top 70)).names.lookup ("most_pairs" : Str) = some .globalImplicit := by decide +kernel
theorem zi2 : (zaa (top 70)).names.lookup ("cover" : Str) = some .globalImplicit := by decide +kernel
theorem zf4 : (zaa (top 70)).names.lookup ("peaceful" : Str) = some .globalImplicit := by decide +kernel
theorem zhH : (zaa (top 70)).names.lookup ("paired" : Str) = some .globalImplicit := by decide +kernel
theorem zi3 : (zaa (top 70)).names.lookup ("shown" : Str) = some .globalImplicit := by decide +kernel
theorem zuj : FnScope ["floor", "leap", "cell"] ["floor", "leap", "cell"] (zaa (top 30)) := ⟨rfl, rfl, rfl, by decide +kernel, rfl, by decide +kernel, by decide +kernel⟩
theorem ze6 : Vis (zaa (top 30)) "floor" := .inl (by decide +kernel)
theorem zkI : Vis (zaa (top 30)) "leap" := .inl (by decide +kernel)
theorem zkJ : Vis (zaa (top 30)) "cell" := .inl (by decide +kernel)
theorem zg0 : (zaa (top 30)).names.lookup ("checked" : Str) = some .globalImplicit := by decide +kernel
theorem zdu : (zaa (top 30)).names.lookup ("checked_leap" : Str) = some .globalImplicit := by decide +kernel
theorem zdv : (zaa (top 30)).names.lookup ("checked_cell" : Str) = some .globalImplicit := by decide +kernel
theorem zuk : FnScope ["floor", "leap"] ["floor", "leap"] (zaa (top 31)) := ⟨rfl, rfl, rfl, by decide +kernel, rfl, by decide +kernel, by decide +kernel⟩
theorem zi4 : Vis (zaa (top 31)) "floor" := .inl (by decide +kernel)
theorem zkK : Vis (zaa (top 31)) "leap" := .inl (by decide +kernel)
theorem zg1 : (zaa (top 31)).names.lookup ("checked" : Str) = some .globalImplicit := by decide +kernel
theorem zdw : (zaa (top 31)).names.lookup ("checked_leap" : Str) = some .globalImplicit := by decide +kernel
theorem zul : FnScope ["floor", "leap"] ["floor", "leap"] (zaa (top 32)) := ⟨rfl, rfl, rfl, by decide +kernel, rfl, by decide +kernel, by decide +kernel⟩
theorem zi5 : Vis (zaa (top 32)) "floor" := .inl (by decide +kernel)
theorem zkL : Vis (zaa (top 32)) "leap" := .inl (by decide +kernel)
theorem zg2 : (zaa (top 32)).names.lookup ("checked" : Str) = some .globalImplicit := by decide +kernel
theorem zdx : (zaa (top 32)).names.lookup ("checked_leap" : Str) = some .globalImplicit := by decide +kernel
theorem zqW : FnScope ["floor", "leap", "one", "other", "way"] ["floor", "leap", "one", "other"] (zaa (top 63)) := ⟨rfl, rfl, rfl, by decide +kernel, rfl, by decide +kernel, by decide +kernel⟩
theorem zi6 : Vis (zaa (top 63)) "other" := .inl (by decide +kernel)
theorem zl8 : Vis (zaa (top 63)) "one" := .inl (by decide +kernel)
theorem zkM : Vis (zaa (top 63)) "leap" := .inl (by decide +kernel)
theorem zi7 : Vis (zaa (top 63)) "floor" := .inl (by decide +kernel)
theorem zl9 : Loc (zaa (top 63)) "way" := .inl (by decide +kernel)
theorem zi8 : (zaa (top 63)).names.lookup ("a_way" : Str) = some .globalImplicit := by decide +kernel
theorem zum : FnScope ["floor", "leap", "one", "other", "leads", "way"] ["floor", "leap", "one", "other"] (zaa (top 62)) := ⟨rfl, rfl, rfl, by decide +kernel, rfl, by decide +kernel, by decide +kernel⟩
theorem zdy : Vis (zaa (top 62)) "floor" := .inl (by decide +kernel)
theorem zkN : Vis (zaa (top 62)) "leap" := .inl (by decide +kernel)
theorem zma : Vis (zaa (top 62)) "one" := .inl (by decide +kernel)
theorem zi9 : Vis (zaa (top 62)) "other" := .inl (by decide +kernel)
theorem zg3 : (zaa (top 62)).names.lookup ("checked" : Str) = some .globalImplicit := by decide +kernel
theorem zdz : (zaa (top 62)).names.lookup ("checked_leap" : Str) = some .globalImplicit := by decide +kernel
theorem zb1 : (zaa (top 62)).names.lookup ("checked_cell" : Str) = some .globalImplicit := by decide +kernel
theorem zun : FnScope ["floor", "leap"] ["floor", "leap"] (zaa (top 40)) := ⟨rfl, rfl, rfl, by decide +kernel, rfl, by decide +kernel, by decide +kernel⟩
theorem zja : Vis (zaa (top 40)) "floor" := .inl (by decide +kernel)
theorem zkO : Vis (zaa (top 40)) "leap" := .inl (by decide +kernel)
theorem zg4 : (zaa (top 40)).names.lookup ("checked" : Str) = some .globalImplicit := by decide +kernel
theorem zdA : (zaa (top 40)).names.lookup ("checked_leap" : Str) = some .globalImplicit := by decide +kernel
theorem zuo : FnScope ["floor", "leap"] ["floor", "leap"] (zaa (top 41)) := ⟨rfl, rfl, rfl, by decide +kernel, rfl, by decide +kernel, by decide +kernel⟩
theorem zkP : Vis (zaa (top 41)) "leap" := .inl (by decide +kernel)
theorem zjb : Vis (zaa (top 41)) "floor" := .inl (by decide +kernel)
theorem zcV : (zaa (top 41)).names.lookup ("cells_by_cover" : Str) = some .globalImplicit := by decide +kernel
theorem zup : FnScope ["floor", "leap"] ["floor", "leap"] (zaa (top 42)) := ⟨rfl, rfl, rfl, by decide +kernel, rfl, by decide +kernel, by decide +kernel⟩
theorem zkQ : Vis (zaa (top 42)) "leap" := .inl (by decide +kernel)
theorem zjc : Vis (zaa (top 42)) "floor" := .inl (by decide +kernel)
theorem zcW : (zaa (top 42)).names.lookup ("cells_by_cover" : Str) = some .globalImplicit := by decide +kernel
theorem zuq : FnScope ["floor", "leap", "mates", "alone", "found"] ["floor", "leap"] (zaa (top 43)) := ⟨rfl, rfl, rfl, by decide +kernel, rfl, by decide +kernel, by decide +kernel⟩
theorem zjd : Vis (zaa (top 43)) "floor" := .inl (by decide +kernel)
theorem zkR : Vis (zaa (top 43)) "leap" := .inl (by decide +kernel)
theorem zg5 : (zaa (top 43)).names.lookup ("checked" : Str) = some .globalImplicit := by decide +kernel
theorem zdB : (zaa (top 43)).names.lookup ("checked_leap" : Str) = some .globalImplicit := by decide +kernel
theorem zur : FnScope ["floor", "width"] ["floor"] (zaa (top 46)) := ⟨rfl, rfl, rfl, by decide +kernel, rfl, by decide +kernel, by decide +kernel⟩
theorem zje : Vis (zaa (top 46)) "floor" := .inr (.inl (by decide +kernel))
theorem zg6 : (zaa (top 46)).names.lookup ("checked" : Str) = some .globalImplicit := by decide +kernel
theorem zus : FnScope ["floor", "cell"] ["floor", "cell"] (zaa (top 19)) := ⟨rfl, rfl, rfl, by decide +kernel, rfl, by decide +kernel, by decide +kernel⟩
theorem zex : Vis (zaa (top 19)) "cell" := .inl (by decide +kernel)
theorem zjf : Vis (zaa (top 19)) "floor" := .inl (by decide +kernel)
theorem zg7 : (zaa (top 19)).names.lookup ("is_cell" : Str) = some .globalImplicit := by decide +kernel
theorem zhI : (zaa (top 19)).names.lookup ("NoCell" : Str) = some .globalImplicit := by decide +kernel
theorem zut : FnScope ["floor", "leap", "covering", "found"] ["floor", "leap", "covering"] (zaa (top 39)) := ⟨rfl, rfl, rfl, by decide +kernel, rfl, by decide +kernel, by decide +kernel⟩
theorem zjg : Vis (zaa (top 39)) "floor" := .inl (by decide +kernel)
theorem zkS : Vis (zaa (top 39)) "leap" := .inr (.inl (by decide +kernel))
theorem zg8 : (zaa (top 39)).names.lookup ("checked" : Str) = some .globalImplicit := by decide +kernel
theorem zdC : (zaa (top 39)).names.lookup ("checked_leap" : Str) = some .globalImplicit := by decide +kernel
section
variable {Pg : Program} {w : World} {K : PySem.W.Frag} {mg : Str → Option Value} {base : Heap} {F : Nat → Addr} {FD : Nat → FuncData} {TK : Nat → Tok} {CL : Nat → Addr} {n fuel : Nat}
theorem zuu (T : Txt K mg F FD TK CL) (hall : ∀ i, FnOk Pg w K mg base CX0 n (F i) (FD i) (zaA i) (spA K (zah U fuel n) i (zcf i))) (cdv : Value) (A : Around) (outer : List PySem.Env) (s : Shared) (H : Hp) (E : XK)
    (hr : Room n (A.deeper (envOfC "is_whole" (zaa (top 11)) s.heap.objs.size (F 0) cdv))) :
    ISs (zbM CX0 Pg w K mg base ["thing", "least", "most"] "is_whole" (zaa (top 11)) (F 0) cdv A outer s H E).nox (zbq (zah U fuel n) fuel ir0) (zae (top 11)) :=
  (zaw (znD (IW.t (zrb (zfn (zh0 (t := .bool) zda T.z_isinstance zog T.z_bool PyProof.Rows.boot_bool (zag 0 rfl zfM zaZ za0) zod zoc zab zab (zaj zab zan)) (zho _ _) zck) (zli (zfl (zfn (zh0 (t := .int) zda T.z_isinstance zqP T.z_int PyProof.Rows.boot_int (zag 0 rfl zfM zaZ za0) zqO zqN zab zab (zaj zab zan)) (zho _ _) zck))))) (zaw (zcI znx)
    zaU) zaU)
    (zaw (zcI (zny zlf zlf (zag 1 rfl zl2 zlW zlX) (zag 0 rfl zfM zaZ za0) (zag 2 rfl zof zoa zob)))
    zaU))
theorem zuv (T : Txt K mg F FD TK CL) (hall : ∀ i, FnOk Pg w K mg base CX0 n (F i) (FD i) (zaA i) (spA K (zah U fuel n) i (zcf i))) (cdv : Value) (A : Around) (outer : List PySem.Env) (s : Shared) (H : Hp) (E : XK)
    (hr : Room n (A.deeper (envOfC "is_couple" (zaa (top 12)) s.heap.objs.size (F 1) cdv))) :
    ISs (zbM CX0 Pg w K mg base ["thing"] "is_couple" (zaa (top 12)) (F 1) cdv A outer s H E).nox (zbq (zah U fuel n) fuel ir1) (zae (top 12)) :=
  (zaw (zcI (zit (zh0 (t := .tuple) zfN T.z_isinstance zl3 T.z_tuple PyProof.Rows.boot_tuple (zag 0 rfl zil zaZ za0) zd1 zd0 zab zab (zaj zab zan)) (zlh (zlg (zcj hr.units) (zdm zhS zqQ T.z_len PySem.boot_len (zad (zag 0 rfl zil zaZ za0) zap zab) zif zie zab zan) zav (zbc _)))))
    zaU)
theorem zuw (T : Txt K mg F FD TK CL) (hall : ∀ i, FnOk Pg w K mg base CX0 n (F i) (FD i) (zaA i) (spA K (zah U fuel n) i (zcf i))) (cdv : Value) (A : Around) (outer : List PySem.Env) (s : Shared) (H : Hp) (E : XK)
    (hr : Room n (A.deeper (envOfC "is_cell" (zaa (top 13)) s.heap.objs.size (F 2) cdv))) :
    ISs (zbM CX0 Pg w K mg base ["thing"] "is_cell" (zaa (top 13)) (F 2) cdv A outer s H E).nox (zbq (zah U fuel n) fuel ir2) (zae (top 13)) :=
  (zaw (zcI (zit (zaT (zaM (hall 1) rfl) hr zgM T.m1 T.f1.kp (T.b1) (zad (zag 0 rfl zfO zaZ za0) zap zab) zdQ zab zan) (zit (zaT (zaM (hall 0) rfl) hr zen T.m0 T.f0.kp (T.b0) (zad (zjj hr.units (zag 0 rfl zfO zaZ za0) zav (fun _ _ => rfl)) (zad zav (zad (zcR zdR T.c0 zdP) zap zab) zac) zax) zbJ zax (zaj zac (zaj zab zan))) (zlh (zaT (zaM (hall 0) rfl) hr zen T.m0 T.f0.kp (T.b0) (zad (zjj hr.units (zag 0 rfl zfO zaZ za0) zav (fun _ _ => rfl)) (zad zav (zad (zcR zdR T.c0 zdP) zap zab) zac) zax) zbJ zax (zaj zac (zaj zab zan)))))))
    zaU)
theorem zux (T : Txt K mg F FD TK CL) (hall : ∀ i, FnOk Pg w K mg base CX0 n (F i) (FD i) (zaA i) (spA K (zah U fuel n) i (zcf i))) (cdv : Value) (A : Around) (outer : List PySem.Env) (s : Shared) (H : Hp) (E : XK)
    (hr : Room n (A.deeper (envOfC "is_leap" (zaa (top 14)) s.heap.objs.size (F 3) cdv))) :
    ISs (zbM CX0 Pg w K mg base ["thing"] "is_leap" (zaa (top 14)) (F 3) cdv A outer s H E).nox (zbq (zah U fuel n) fuel ir3) (zae (top 14)) :=
  (zaw (zcI (zit (zaT (zaM (hall 1) rfl) hr zgN T.m1 T.f1.kp (T.b1) (zad (zag 0 rfl zd2 zaZ za0) zap zab) zdQ zab zan) (zit (zaT (zaM (hall 0) rfl) hr zeo T.m0 T.f0.kp (T.b0) (zad (zjj hr.units (zag 0 rfl zd2 zaZ za0) zav (fun _ _ => rfl)) (zad zav (zad (zcR zep T.c2 zem) zap zab) zac) zax) zbJ zax (zaj zac (zaj zab zan))) (zlh (zaT (zaM (hall 0) rfl) hr zeo T.m0 T.f0.kp (T.b0) (zad (zjj hr.units (zag 0 rfl zd2 zaZ za0) zav (fun _ _ => rfl)) (zad zav (zad (zjj hr.units (zag 0 rfl zd2 zaZ za0) zav (fun _ _ => rfl)) zap zax) zac) zax) zbJ zax (zaj zac (zaj zax zan)))))))
    zaU)
theorem zuy (T : Txt K mg F FD TK CL) (hall : ∀ i, FnOk Pg w K mg base CX0 n (F i) (FD i) (zaA i) (spA K (zah U fuel n) i (zcf i))) (cdv : Value) (A : Around) (outer : List PySem.Env) (s : Shared) (H : Hp) (E : XK)
    (hr : Room n (A.deeper (envOfC "is_rising" (zaa (top 15)) s.heap.objs.size (F 4) cdv))) :
    ISs (zbM CX0 Pg w K mg base ["cells"] "is_rising" (zaa (top 15)) (F 4) cdv A outer s H E).nox (zbq (zah U fuel n) fuel ir4) (zae (top 15)) :=
  (zaw (zcI (zdm (zmI rfl) zqS T.z_all (by decide +kernel) (zad (zj9 rfl (zkd (sc := zaa (top 15)) (N := ["cells"]) rfl rfl (by decide +kernel)) (zll zl5 T.z_range (zad zav (zad (zdm zhS zqR T.z_len PySem.boot_len (zad (zag 0 rfl zl4 zfG zfH) zap zab) zif zie zab zan) zap za8) zac) zac za8) (.inl ⟨rfl, rfl⟩) (fun _ _ _ _ => (zlg (znv hr.units) (zjj hr.units (zag 1 rfl (zfq (by decide +kernel)) zfG zfH) (zbN zgj (zag 0 rfl (zeh (by decide +kernel)) zig zih) zav) (fun _ _ => rfl)) (zjj hr.units (zag 1 rfl (zfq (by decide +kernel)) zfG zfH) (zag 0 rfl (zeh (by decide +kernel)) zig zih) (fun _ _ => rfl)) (zbc _)))) zap zbC) zmR zmQ zbC zan))
    zaU)
theorem zuz (T : Txt K mg F FD TK CL) (hall : ∀ i, FnOk Pg w K mg base CX0 n (F i) (FD i) (zaA i) (spA K (zah U fuel n) i (zcf i))) (cdv : Value) (A : Around) (outer : List PySem.Env) (s : Shared) (H : Hp) (E : XK)
    (hr : Room n (A.deeper (envOfC "is_floor" (zaa (top 16)) s.heap.objs.size (F 5) cdv))) :
    ISs (zbM CX0 Pg w K mg base ["thing"] "is_floor" (zaa (top 16)) (F 5) cdv A outer s H E).nox (zbq (zah U fuel n) fuel ir5) (zae (top 16)) :=
  (zaw (znD (IW.t (zrb (zfl (zfn (zh0 (t := .tuple) zfQ T.z_isinstance zl6 T.z_tuple PyProof.Rows.boot_tuple (zag 0 rfl zd3 zaZ za0) zd1 zd0 zab zab (zaj zab zan)) (zho _ _) zck)) (zli (zfl (znz rfl rfl zlf zlf zav (zdm zhS zqU T.z_len PySem.boot_len (zad (zag 0 rfl zd3 zaZ za0) zap zab) zif zie zab zan) (zcR zfP T.c1 zfD)))))) (zaw (zcI znx)
    zaU) zaU)
    (zaw (zcI (zit (zdm (zmI rfl) zqT T.z_all (by decide +kernel) (zad (zj9 rfl (zkd (sc := zaa (top 16)) (N := ["thing"]) rfl rfl (by decide +kernel)) (znF (zag 0 rfl zd3 zaZ za0)) (.inl ⟨rfl, rfl⟩) (fun _ _ _ _ => (zaT (zaM (hall 2) rfl) hr (zkb (by decide +kernel)) T.m2 T.f2.kp (T.b2) (zad (zag 0 rfl (zeh (by decide +kernel)) zn8 zn9) zap zab) zeZ zab zan))) zap zbC) zmR zmQ zbC zan) (zlh (zaT (zaM (hall 4) rfl) hr zgO T.m4 T.f4.kp (T.b4) (zad (zag 0 rfl zd3 zaZ za0) zap zab) zgG zab zan))))
    zaU))
theorem zuA (T : Txt K mg F FD TK CL) (hall : ∀ i, FnOk Pg w K mg base CX0 n (F i) (FD i) (zaA i) (spA K (zah U fuel n) i (zcf i))) (cdv : Value) (A : Around) (outer : List PySem.Env) (s : Shared) (H : Hp) (E : XK)
    (hr : Room n (A.deeper (envOfC "checked" (zaa (top 17)) s.heap.objs.size (F 6) cdv))) :
    ISs (zbM CX0 Pg w K mg base ["floor"] "checked" (zaa (top 17)) (F 6) cdv A outer s H E).nox (zbq (zah U fuel n) fuel ir6) (zae (top 17)) :=
  (zaw (znD (zfl (zfn (zaT (zaM (hall 5) rfl) hr zhD T.m5 T.f5.kp (T.b5) (zad (zag 0 rfl zim zaI zaJ) zap zab) zek zab zan) (zee _ _) zck)) (zaw zpA
    zaU) zaU)
    (zaw (zhY 0 rfl zim zaI zaJ)
    zaU))
theorem zqX (T : Txt K mg F FD TK CL) (hall : ∀ i, FnOk Pg w K mg base CX0 n (F i) (FD i) (zaA i) (spA K (zah U fuel n) i (zcf i))) (cdv : Value) (A : Around) (outer : List PySem.Env) (s : Shared) (H : Hp) (E : XK)
    (hr : Room n (A.deeper (envOfC "_law_cell" (zaa (top 65)) s.heap.objs.size (F 13) cdv))) :
    ISs (zbM CX0 Pg w K mg base ["_law_script", "_law_k"] "_law_cell" (zaa (top 65)) (F 13) cdv A outer s H E).nox (zbq (zah U fuel n) fuel zqx) (zae (top 65)) :=
  (zaw (znD (zb3 rfl (znv hr.units) (zag 1 rfl ze0 zc2 zc3) (zdm zhS zoh T.z_len PySem.boot_len (zad (zag 0 rfl zcv zaQ zaR) zap zab) zif zie zab zan) (zbc _)) (zaw (zcI (zjj hr.units (zag 0 rfl zcv zaQ zaR) (zag 1 rfl ze0 zc2 zc3) (fun _ _ => rfl)))
    zaU) zaU)
    (zaw (zcI zav)
    zaU))
theorem zqY (T : Txt K mg F FD TK CL) (hall : ∀ i, FnOk Pg w K mg base CX0 n (F i) (FD i) (zaA i) (spA K (zah U fuel n) i (zcf i))) (cdv : Value) (A : Around) (outer : List PySem.Env) (s : Shared) (H : Hp) (E : XK)
    (hr : Room n (A.deeper (envOfC "_law_mix" (zaa (top 66)) s.heap.objs.size (F 14) cdv))) :
    ISs (zbM CX0 Pg w K mg base ["_law_cell_here", "_law_prime", "_law_many"] "_law_mix" (zaa (top 66)) (F 14) cdv A outer s H E).nox (zbq (zah U fuel n) fuel zqy) (zae (top 66)) :=
  (zaw (zcI (zbN zeQ (zbN zeQ (zbN zeP (zag 0 rfl zdb za2 za3) zav) (zag 1 rfl zeC zfE zfF)) (zag 2 rfl zfR zcs zct)))
    zaU)
theorem zqZ (T : Txt K mg F FD TK CL) (hall : ∀ i, FnOk Pg w K mg base CX0 n (F i) (FD i) (zaA i) (spA K (zah U fuel n) i (zcf i))) (cdv : Value) (A : Around) (outer : List PySem.Env) (s : Shared) (H : Hp) (E : XK)
    (hr : Room n (A.deeper (envOfC "_law_floor" (zaa (top 67)) s.heap.objs.size (F 15) cdv))) :
    ISs (zbM CX0 Pg w K mg base ["_law_script", "_law_at", "_law_most", "_law_cell_here", "_law_rows", "_law_wide", "_law_down", "_law_right", "_law_way", "_law_found", "_law_r", "_law_c", "_law_seed"] "_law_floor" (zaa (top 67)) (F 15) cdv A outer s H E).nox (zbq (zah U fuel n) fuel zqz) (zae (top 67)) :=
  (zaw (zcm 3 zjk.nd rfl zdf (zaT (zaM (hall 13) rfl) hr zbD T.m13 T.f13.kp (T.b13) (zad (zag 0 rfl zbm zaQ zaR) (zad (zag 1 rfl zca zcD zcE) zap zab) zab) zbj zab (zaj zab zan)))
    (zaw (zcm 4 zjk.nd rfl zfX (zbN zbI zav (zaT (zaM (hall 14) rfl) hr zbk T.m14 T.f14.kp (T.b14) (zad (zag 3 rfl zbn za2 za3) (zad zav (zad zav zap zac) zac) zab) zbw zab (zaj zac (zaj zac zan)))))
    (zaw (zcm 5 zjk.nd rfl zfW (zbN zbI zav (zaT (zaM (hall 14) rfl) hr zbk T.m14 T.f14.kp (T.b14) (zad (zag 3 rfl zbn za2 za3) (zad zav (zad zav zap zac) zac) zab) zbw zab (zaj zac (zaj zac zan)))))
    (zaw (zcm 6 zjk.nd rfl zfV (zaT (zaM (hall 14) rfl) hr zbk T.m14 T.f14.kp (T.b14) (zad (zaT (zaM (hall 13) rfl) hr zbD T.m13 T.f13.kp (T.b13) (zad (zag 0 rfl zbm zaQ zaR) (zad (zbN zbI (zag 1 rfl zca zcD zcE) zav) zap zat) zab) zbj zab (zaj zat zan)) (zad zav (zad (zbN zgj zav (zag 4 rfl zdd zdL zdM)) zap zat) zac) za8) zbw za8 (zaj zac (zaj zat zan))))
    (zaw (zcm 7 zjk.nd rfl zeD (zaT (zaM (hall 14) rfl) hr zbk T.m14 T.f14.kp (T.b14) (zad (zaT (zaM (hall 13) rfl) hr zbD T.m13 T.f13.kp (T.b13) (zad (zag 0 rfl zbm zaQ zaR) (zad (zbN zbI (zag 1 rfl zca zcD zcE) zav) zap zat) zab) zbj zab (zaj zat zan)) (zad zav (zad (zbN zgj zav (zag 5 rfl zde zdN zdO)) zap zat) zac) za8) zbw za8 (zaj zac (zaj zat zan))))
    (zaw (zcm 8 zjk.nd rfl zgP (zaT (zaM (hall 14) rfl) hr zbk T.m14 T.f14.kp (T.b14) (zad (zbN zbI (zag 3 rfl zbn za2 za3) zav) (zad zav (zad zav zap zac) zac) zat) zbw zat (zaj zac (zaj zac zan))))
    (zaw (zcm 9 zjk.nd rfl zcO (zdT zap))
    (zaw (znG 10 PassesOwn.never rfl zjk.nd rfl ziY (zdY zgQ T.z_range (zad (zag 4 rfl zdd zdL zdM) zap zab) zab) (zaw (znG 11 PassesOwn.never rfl zjk.nd rfl ziX (zdY zgQ T.z_range (zad (zag 5 rfl zde zdN zdO) zap zab) zab) (zaw (zcm 12 zjk.nd rfl zfU (zbN zbI (zbN zbI (zaT (zaM (hall 13) rfl) hr zbD T.m13 T.f13.kp (T.b13) (zad (zag 0 rfl zbm zaQ zaR) (zad (zbN zbI (zbN zbI (zag 1 rfl zca zcD zcE) zav) (zbN zeQ (zbN zbI (zag 10 rfl zcG zc8 zc9) (zbN zeP zav (zag 11 rfl zcF zc6 zc7))) zav)) zap zat) zab) zbj zab (zaj zat zan)) (zbN zeP (zbN zeP zav (zag 10 rfl zcG zc8 zc9)) (zag 10 rfl zcG zc8 zc9))) (zbN zeP (zbN zeP zav (zag 11 rfl zcF zc6 zc7)) (zag 11 rfl zcF zc6 zc7))))
    (zaw (znD (IW.t (zrb (zb3 rfl (zcj hr.units) (zag 8 rfl zdS zay zaz) zav (zbc _)) (zli (zb3 rfl ztg (zaT (zaM (hall 14) rfl) hr zbk T.m14 T.f14.kp (T.b14) (zad (zag 12 rfl zfT zgE zgF) (zad zav (zad (zjj hr.units (zdT (zad zav (zad zav (zad zav zap zac) zac) zac)) (zbN zgj (zag 8 rfl zdS zay zaz) zav) (fun _ _ => rfl)) zap zax) zac) zab) zbw zab (zaj zac (zaj zax zan))) zav (zbc _))))) (zaw (zpB 9 rfl zbT (zbs (zad (zbN zbI (zag 6 rfl zdc zdJ zdK) (zag 10 rfl zcG zc8 zc9)) (zad (zbN zbI (zag 7 rfl zcN zc4 zc5) (zag 11 rfl zcF zc6 zc7)) zap zat) zat)) zaB zb7 zb8)
    zaU) zaU)
    zaU)))
    zaU))
    (zaw (znD (zfl (zfn (zag 9 rfl zbT zb7 zb8) (zpy _) znw)) (zaw (zcm 9 zjk.nd rfl zcO (zdT (zad (zbs (zad (zag 6 rfl zdc zdJ zdK) (zad (zag 7 rfl zcN zc4 zc5) zap zab) zab)) zap zaB)))
    zaU) zaU)
    (zaw (zcI (zfi zhT zkA T.z_tuple PyProof.Rows.boot_tuple (zad (znJ (zag 9 rfl zbT zb7 zb8) (zag 2 rfl zfS zgC zgD)) zap zax) zd1 zd0 zax zan))
    zaU))))))))))
theorem zq0 (T : Txt K mg F FD TK CL) (hall : ∀ i, FnOk Pg w K mg base CX0 n (F i) (FD i) (zaA i) (spA K (zah U fuel n) i (zcf i))) (cdv : Value) (A : Around) (outer : List PySem.Env) (s : Shared) (H : Hp) (E : XK)
    (hr : Room n (A.deeper (envOfC "_law_spoilt" (zaa (top 68)) s.heap.objs.size (F 88) cdv))) :
    ISs (zbM CX0 Pg w K mg base ["_law_floor_here", "_law_cell_here", "_law_first", "_law_some", "_law_many", "_law_k"] "_law_spoilt" (zaa (top 68)) (F 88) cdv A outer s H E).nox (zbq (zah U fuel n) fuel zqA) (zae (top 68)) :=
  (zaw (zcm 2 zmU.nd rfl zeF (zjj hr.units (zag 0 rfl zaq zak zal) zav (fun _ _ => rfl)))
    (zaw (zcm 3 zmU.nd rfl zbF (zdT (zad (zfi zjY zl7 T.z_list PyProof.Rows.boot_list (zad (zag 0 rfl zaq zak zal) zap zab) zn7 zn6 zab zan) (zad zcQ (zad (zbs zap) (zad zav (zad zpx (zad (zbN zbA (zag 0 rfl zaq zak zal) (zbs (zad (zjj hr.units (zag 0 rfl zaq zak zal) (zuJ zmE zav) (fun _ _ => rfl)) zap zax))) (zad (zbN zbA (zag 0 rfl zaq zak zal) (zbs (zad (zbs (zad zav (zad zav zap zac) zac)) zap zaB))) (zad (zbN zbA (zbs (zad (zbs (zad (zuJ zmE zav) (zad zav zap zac) zgk)) zap zaB)) (zag 0 rfl zaq zak zal)) zap zat) zat) zat) zac) zac) zaB) zac) za8)))
    (zaw (zcm 3 zmU.nd rfl zbF (zbN zbI (zag 3 rfl zbE zbP zbQ) (zdT (zad (zbN zbA (zag 0 rfl zaq zak zal) (zbs (zad (zbs (zad zav (zad zav zap zac) zac)) zap zaB))) (zad (zbN zbA (zag 0 rfl zaq zak zal) (zbs (zad zcQ zap zac))) (zad (zbN zbA (zag 0 rfl zaq zak zal) (zbs (zad (zbs (zad zav zap zac)) zap zaB))) (zad (zbN zbA (zag 0 rfl zaq zak zal) (zbs (zad (zdT (zad zav (zad zav zap zac) zac)) zap zjZ))) zap zat) zat) zat) zat))))
    (zaw (zcm 3 zmU.nd rfl zbF (zbN zbI (zag 3 rfl zbE zbP zbQ) (zdT (zad (zbN zbA (zbs (zad (zbs (zad zav (zad znx zap zac) zac)) zap zaB)) (zag 0 rfl zaq zak zal)) (zad (zbN zbA (zag 0 rfl zaq zak zal) (zbs (zad zpx zap zac))) zap zat) zat))))
    (zaw (zcm 4 zmU.nd rfl zfY (zdT zap))
    (zaw (znG 5 PassesOwn.never rfl zmU.nd rfl ziZ (zdY zkC T.z_range (zad zav zap zac) zac) (zaw (zpB 4 rfl zdh (zbs (zad (zbN znu (zag 5 rfl ze1 zc2 zc3) zav) (zad (zbN zeQ (zag 5 rfl ze1 zc2 zc3) zav) zap zat) zat)) zaB zcs zct)
    zaU))
    (zaw (zcm 3 zmU.nd rfl zbF (zbN zbI (zag 3 rfl zbE zbP zbQ) (zdT (zad (zfi zhT zkB T.z_tuple PyProof.Rows.boot_tuple (zad (zag 4 rfl zdh zcs zct) zap zab) zd1 zd0 zab zan) (zad (zbN zbA (zbs (zad (zag 2 rfl zeE zfB zfC) zap zab)) (zag 0 rfl zaq zak zal)) (zad (zbN zbA (zag 0 rfl zaq zak zal) (zbN znQ (zbs (zad (zbs (zad zav (zad zav zap zac) zac)) zap zaB)) zav)) (zad (zbN zbA (zag 0 rfl zaq zak zal) (zbs (zad (zbs (zad zav (zad zav (zad zav zap zac) zac) zac)) zap zaB))) zap zat) zat) zat) za8))))
    (zaw (zcI (zjj hr.units (zag 3 rfl zbE zbP zbQ) (zbN zeQ (zag 1 rfl zdg za2 za3) zav) (fun _ _ => rfl)))
    zaU))))))))
theorem zq1 (T : Txt K mg F FD TK CL) (hall : ∀ i, FnOk Pg w K mg base CX0 n (F i) (FD i) (zaA i) (spA K (zah U fuel n) i (zcf i))) (cdv : Value) (A : Around) (outer : List PySem.Env) (s : Shared) (H : Hp) (E : XK)
    (hr : Room n (A.deeper (envOfC "law" (zaa (top 72)) s.heap.objs.size (F 92) cdv))) :
    ISs (zbM CX0 Pg w K mg base ["_law_script", "_law_floor_here", "_law_bad"] "law" (zaa (top 72)) (F 92) cdv A outer s H E).nox (zbq (zah U fuel n) fuel zoB) (zae (top 72)) :=
  (zaw (zcm 1 zua.nd rfl zcU (zaT (zaM (hall 15) rfl) hr zeG T.m15 T.f15.kp (T.b15) (zad (zag 0 rfl zbL zaQ zaR) (zad zav (zad zav zap zac) zac) zab) zfA zab (zaj zac (zaj zac zan))))
    (zaw (znD (zb3 rfl (zcj hr.units) (zbN zeQ (zaT (zaM (hall 13) rfl) hr zdi T.m13 T.f13.kp (T.b13) (zad (zag 0 rfl zbL zaQ zaR) (zad zav zap zac) zab) zbj zab (zaj zac zan)) zav) zav (zbc _)) (zaw (zcI (zlg (zcj hr.units) (zaT (zaM (hall 6) rfl) hr zhE T.m6 T.f6.kp (T.b6) (zad (zag 1 rfl zbi zak zal) zap zab) zaS zab zan) (zag 1 rfl zbi zak zal) (zbc _)))
    zaU) zaU)
    (zaw (zcm 2 zua.nd rfl zgR (zaT (zaM (hall 88) rfl) hr zeq T.m88 T.f88.kp (T.b88) (zad (zag 1 rfl zbi zak zal) (zad (zaT (zaM (hall 13) rfl) hr zdi T.m13 T.f13.kp (T.b13) (zad (zag 0 rfl zbL zaQ zaR) (zad zav zap zac) zab) zbj zab (zaj zac zan)) zap za8) zab) zeA zab (zaj za8 zan)))
    (zaw (zcI (zlg (zcj hr.units) (zj9 rfl (zkd (sc := zaa (top 72)) (N := ["_law_script", "_law_floor_here", "_law_bad"]) rfl rfl (by decide +kernel)) (zdY zkD T.z_range (zad zav zap zac) zac) (.inr ⟨_, rfl, fun _ _ _ _ => (zb3 rfl (ztf hr.units) (zaT (zaM (hall 120) rfl) hr (zkb (by decide +kernel)) T.m120 T.f120.kp (T.b120) (zad (zag 0 rfl (zeh (by decide +kernel)) zay zaz) (zad (zag 3 rfl (zfq (by decide +kernel)) zaC zaD) zap zab) zab) zgB zab (zaj zab zan)) (zdT (zad znx (zad znx zap zac) zac)) (zbc _))⟩) (fun _ _ _ _ => (zag 0 rfl (zeh (by decide +kernel)) zay zaz))) (zdT zap) (zbc _)))
    zaU))))
structure Xs (Pg : Program) (w : World) (K : PySem.W.Frag) (mg : Str → Option Value) (base : Heap) (F : Nat → Addr) (FD : Nat → FuncData) (CL : Nat → Addr) (fuel n : Nat) : Prop where
  x112 : FnOk Pg w K mg base (CX1 Pg w) n (F 112) (FD 112) (zaA 112) (spX K (clV CL) (zah U fuel n) 112)
  x115 : FnOk Pg w K mg base (CX1 Pg w) n (F 115) (FD 115) (zaA 115) (spX K (clV CL) (zah U fuel n) 115)
  x116 : FnOk Pg w K mg base (CX1 Pg w) n (F 116) (FD 116) (zaA 116) (spX K (clV CL) (zah U fuel n) 116)
  x117 : FnOk Pg w K mg base (CX1 Pg w) n (F 117) (FD 117) (zaA 117) (spX K (clV CL) (zah U fuel n) 117)
  x118 : FnOk Pg w K mg base (CX1 Pg w) n (F 118) (FD 118) (zaA 118) (spX K (clV CL) (zah U fuel n) 118)
  x119 : FnOk Pg w K mg base (CX1 Pg w) n (F 119) (FD 119) (zaA 119) (spX K (clV CL) (zah U fuel n) 119)
  x120 : FnOk Pg w K mg base (CX1 Pg w) n (F 120) (FD 120) (zaA 120) (spX K (clV CL) (zah U fuel n) 120)
  x121 : FnOk Pg w K mg base (CX1 Pg w) n (F 121) (FD 121) (zaA 121) (spX K (clV CL) (zah U fuel n) 121)
  x122 : FnOk Pg w K mg base (CX1 Pg w) n (F 122) (FD 122) (zaA 122) (spX K (clV CL) (zah U fuel n) 122)
  x123 : FnOk Pg w K mg base (CX1 Pg w) n (F 123) (FD 123) (zaA 123) (spX K (clV CL) (zah U fuel n) 123)
  x124 : FnOk Pg w K mg base (CX1 Pg w) n (F 124) (FD 124) (zaA 124) (spX K (clV CL) (zah U fuel n) 124)
  x125 : FnOk Pg w K mg base (CX1 Pg w) n (F 125) (FD 125) (zaA 125) (spX K (clV CL) (zah U fuel n) 125)
  x126 : FnOk Pg w K mg base (CX1 Pg w) n (F 126) (FD 126) (zaA 126) (spX K (clV CL) (zah U fuel n) 126)
  x127 : FnOk Pg w K mg base (CX1 Pg w) n (F 127) (FD 127) (zaA 127) (spX K (clV CL) (zah U fuel n) 127)
  x128 : FnOk Pg w K mg base (CX1 Pg w) n (F 128) (FD 128) (zaA 128) (spX K (clV CL) (zah U fuel n) 128)
  x129 : FnOk Pg w K mg base (CX1 Pg w) n (F 129) (FD 129) (zaA 129) (spX K (clV CL) (zah U fuel n) 129)
  x130 : FnOk Pg w K mg base (CX1 Pg w) n (F 130) (FD 130) (zaA 130) (spX K (clV CL) (zah U fuel n) 130)
  x131 : FnOk Pg w K mg base (CX1 Pg w) n (F 131) (FD 131) (zaA 131) (spX K (clV CL) (zah U fuel n) 131)
  x132 : FnOk Pg w K mg base (CX1 Pg w) n (F 132) (FD 132) (zaA 132) (spX K (clV CL) (zah U fuel n) 132)
  x133 : FnOk Pg w K mg base (CX1 Pg w) n (F 133) (FD 133) (zaA 133) (spX K (clV CL) (zah U fuel n) 133)
  x134 : FnOk Pg w K mg base (CX1 Pg w) n (F 134) (FD 134) (zaA 134) (spX K (clV CL) (zah U fuel n) 134)
theorem zmb (T : Txt K mg F FD TK CL) (hall : ∀ i, FnOk Pg w K mg base CX0 n (F i) (FD i) (zaA i) (spA K (zah U fuel n) i (zcf i))) (hx : Xs Pg w K mg base F FD CL fuel n) (cdv : Value) (A : Around) (outer : List PySem.Env) (s : Shared) (H : Hp) (E : XK)
    (hr : Room n (A.deeper (envOfC "checked_leap" (zaa (top 18)) s.heap.objs.size (F 112) cdv))) :
    IXs (zbM (CX1 Pg w) Pg w K mg base ["leap"] "checked_leap" (zaa (top 18)) (F 112) cdv A outer s H E) (clV CL) E (zbr (zah U fuel n) fuel zlJ) (zae (top 18)) :=
  (zai (zgn (zfl (zfn (zaT (zaM (hall 3) rfl) hr zgT T.m3 T.f3.kp (T.b3) (zad (zag 0 rfl zgS zbg zbh) zap zab) ziV zab zan) (zee _ _) zck)) (zai (zfr (cl := clV CL) 2 rfl (fun _ _ _ _ _ _ _ _ I m q => zlt I m q) T.q2 rfl zgU T.y2 zf5 (fun _ _ _ h => h _) ziW zac)
    zaG) zaG)
    (zai (zrc (zhY 0 rfl zgS zbg zbh))
    zaG))
theorem zmc (T : Txt K mg F FD TK CL) (hall : ∀ i, FnOk Pg w K mg base CX0 n (F i) (FD i) (zaA i) (spA K (zah U fuel n) i (zcf i))) (hx : Xs Pg w K mg base F FD CL fuel n) (cdv : Value) (A : Around) (outer : List PySem.Env) (s : Shared) (H : Hp) (E : XK)
    (hr : Room n (A.deeper (envOfC "walk" (zaa (top 56)) s.heap.objs.size (F 115) cdv))) :
    IXs (zbM (CX1 Pg w) Pg w K mg base ["floor", "leap", "near", "anywhere"] "walk" (zaa (top 56)) (F 115) cdv A outer s H E) (clV CL) E (zbr (zah U fuel n) fuel ziA) (zae (top 56)) :=
  (zai (zaW (zar (i := 118) hx.x118 zaV hr zgV T.m118 T.f118.kp T.b118 (zad (zag 0 rfl ze2 zaI zaJ) zap zab) zaS zab zan))
    (zai (zaW (zar (i := 112) hx.x112 zaV hr zdp T.m112 T.f112.kp T.b112 (zad (zag 1 rfl zkE zbg zbh) zap zab) zaH zab zan))
    (zai (zaW (zar (i := 119) hx.x119 zaV hr zer T.m119 T.f119.kp T.b119 (zad (zag 0 rfl ze2 zaI zaJ) (zad (zcR zdq T.c3 zcu) zap zab) zab) zb9 zab (zaj zab zan)))
    zba)))
theorem zmd (T : Txt K mg F FD TK CL) (hall : ∀ i, FnOk Pg w K mg base CX0 n (F i) (FD i) (zaA i) (spA K (zah U fuel n) i (zcf i))) (hx : Xs Pg w K mg base F FD CL fuel n) (cdv : Value) (A : Around) (outer : List PySem.Env) (s : Shared) (H : Hp) (E : XK)
    (hr : Room n (A.deeper (envOfC "ring_walk" (zaa (top 57)) s.heap.objs.size (F 116) cdv))) :
    IXs (zbM (CX1 Pg w) Pg w K mg base ["floor", "leap", "near"] "ring_walk" (zaa (top 57)) (F 116) cdv A outer s H E) (clV CL) E (zbr (zah U fuel n) fuel ziB) (zae (top 57)) :=
  (zai (zaW (zar (i := 118) hx.x118 zaV hr zgW T.m118 T.f118.kp T.b118 (zad (zag 0 rfl ze3 zaI zaJ) zap zab) zaS zab zan))
    (zai (zaW (zar (i := 112) hx.x112 zaV hr zdr T.m112 T.f112.kp T.b112 (zad (zag 1 rfl zkF zbg zbh) zap zab) zaH zab zan))
    (zai (zaW (zar (i := 119) hx.x119 zaV hr zes T.m119 T.f119.kp T.b119 (zad (zag 0 rfl ze3 zaI zaJ) (zad (zcR zds T.c3 zcu) zap zab) zab) zb9 zab (zaj zab zan)))
    zba)))
theorem zme (T : Txt K mg F FD TK CL) (hall : ∀ i, FnOk Pg w K mg base CX0 n (F i) (FD i) (zaA i) (spA K (zah U fuel n) i (zcf i))) (hx : Xs Pg w K mg base F FD CL fuel n) (cdv : Value) (A : Around) (outer : List PySem.Env) (s : Shared) (H : Hp) (E : XK)
    (hr : Room n (A.deeper (envOfC "cut_of" (zaa (top 60)) s.heap.objs.size (F 117) cdv))) :
    IXs (zbM (CX1 Pg w) Pg w K mg base ["floor", "leap", "spare", "cuts", "cut"] "cut_of" (zaa (top 60)) (F 117) cdv A outer s H E) (clV CL) E (zbr (zah U fuel n) fuel ziC) (zae (top 60)) :=
  (zai (zaW (zar (i := 118) hx.x118 zaV hr zgX T.m118 T.f118.kp T.b118 (zad (zag 0 rfl ze4 zaI zaJ) zap zab) zaS zab zan))
    (zai (zaW (zar (i := 112) hx.x112 zaV hr zdt T.m112 T.f112.kp T.b112 (zad (zag 1 rfl zkG zbg zbh) zap zab) zaH zab zan))
    (zai (zaW (zar (i := 119) hx.x119 zaV hr zet T.m119 T.f119.kp T.b119 (zad (zag 0 rfl ze4 zaI zaJ) (zad (zcR zdW T.c4 zeB) zap zab) zab) zb9 zab (zaj zab zan)))
    (zai (zgn (zfl (zfn (zaT (zaM (hall 0) rfl) hr zfZ T.m0 T.f0.kp (T.b0) (zad (zag 2 rfl zi0 zl0 zl1) (zad zav (zad zav zap zac) zac) zab) zbJ zab (zaj zac (zaj zac zan))) (zee _ _) zck)) (zai (zfr (cl := clV CL) 4 rfl (fun _ _ _ _ _ _ _ _ I m q => zlt I m q) T.q4 rfl zeH T.y4 zf5 (fun _ _ _ h => h _) zgL zac)
    zaG) zaG)
    zba))))
theorem zmf (T : Txt K mg F FD TK CL) (hall : ∀ i, FnOk Pg w K mg base CX0 n (F i) (FD i) (zaA i) (spA K (zah U fuel n) i (zcf i))) (hx : Xs Pg w K mg base F FD CL fuel n) (cdv : Value) (A : Around) (outer : List PySem.Env) (s : Shared) (H : Hp) (E : XK)
    (hr : Room n (A.deeper (envOfC "checked" (zaa (top 17)) s.heap.objs.size (F 118) cdv))) :
    IXs (zbM (CX1 Pg w) Pg w K mg base ["floor"] "checked" (zaa (top 17)) (F 118) cdv A outer s H E) (clV CL) E (zbr (zah U fuel n) fuel ziD) (zae (top 17)) :=
  (zai (zgn (zfl (zfn (zaT (zaM (hall 5) rfl) hr zf0 T.m5 T.f5.kp (T.b5) (zad (zag 0 rfl ze5 zaI zaJ) zap zab) zek zab zan) (zee _ _) zck)) (zai (zfr (cl := clV CL) 1 rfl (fun _ _ _ _ _ _ _ _ I m q => zlt I m q) T.q1 rfl zf1 T.y1 zf5 (fun _ _ _ h => h _) zel zac)
    zaG) zaG)
    (zai (zrc (zhY 0 rfl ze5 zaI zaJ))
    zaG))
theorem zmg (T : Txt K mg F FD TK CL) (hall : ∀ i, FnOk Pg w K mg base CX0 n (F i) (FD i) (zaA i) (spA K (zah U fuel n) i (zcf i))) (hx : Xs Pg w K mg base F FD CL fuel n) (cdv : Value) (A : Around) (outer : List PySem.Env) (s : Shared) (H : Hp) (E : XK)
    (hr : Room n (A.deeper (envOfC "refuse_big" (zaa (top 50)) s.heap.objs.size (F 119) cdv))) :
    IXs (zbM (CX1 Pg w) Pg w K mg base ["floor", "most"] "refuse_big" (zaa (top 50)) (F 119) cdv A outer s H E) (clV CL) E (zbr (zah U fuel n) fuel zlK) (zae (top 50)) :=
  zba
theorem zmh (T : Txt K mg F FD TK CL) (hall : ∀ i, FnOk Pg w K mg base CX0 n (F i) (FD i) (zaA i) (spA K (zah U fuel n) i (zcf i))) (hx : Xs Pg w K mg base F FD CL fuel n) (cdv : Value) (A : Around) (outer : List PySem.Env) (s : Shared) (H : Hp) (E : XK)
    (hr : Room n (A.deeper (envOfC "_law_told" (zaa (top 71)) s.heap.objs.size (F 120) cdv))) :
    IXs (zbM (CX1 Pg w) Pg w K mg base ["_law_way", "_law_bad", "e"] "_law_told" (zaa (top 71)) (F 120) cdv A outer s H E) (clV CL) E (zbr (zah U fuel n) fuel zhw) (zae (top 71)) :=
  (zai (ztk (cl := clV CL) rfl rfl (fun pn xe E1 hP => (zai (zgn (zb3 rfl (znv hr.units) (zag 0 rfl zcb zay zaz) zav (zbc _)) (zai (zaW (zar (i := 121) hx.x121 hP hr zeI T.m121 T.f121.kp T.b121 (zad (zag 0 rfl zcb zay zaz) (zad (zag 1 rfl zdj zaC zaD) zap zab) zab) zgH zab (zaj zab zan)))
    zaG) (zai (zaW (zar (i := 122) hx.x122 hP hr zeJ T.m122 T.f122.kp T.b122 (zad (zbN zgj (zag 0 rfl zcb zay zaz) zav) (zad (zag 1 rfl zdj zaC zaD) zap zab) zat) zgI zat (zaj zab zan)))
    zaG))
    zaG))
    (all_cons T.t1 (all_cons T.t2 (all_cons T.t3 (all_cons T.t4 (all_cons T.t5 all_nil))))) zeK T.y0 zgJ zqV.nd rfl zoi (znO 1 (by decide) rfl zmV zvh zvi zcw T.z_isinstance zf2 T.y1 zel) (znP rfl zmV zvh zvi zcw T.z_isinstance zeu T.z_ValueError (all_cons T.v1 (all_cons T.v2 (all_cons T.v3 (all_cons T.v4 (all_cons T.v5 all_nil)))))) za8 za8)
    (zai (zrc (zcI (zdT zap)))
    zaG))
theorem zmi (T : Txt K mg F FD TK CL) (hall : ∀ i, FnOk Pg w K mg base CX0 n (F i) (FD i) (zaA i) (spA K (zah U fuel n) i (zcf i))) (hx : Xs Pg w K mg base F FD CL fuel n) (cdv : Value) (A : Around) (outer : List PySem.Env) (s : Shared) (H : Hp) (E : XK)
    (hr : Room n (A.deeper (envOfC "_law_deed" (zaa (top 69)) s.heap.objs.size (F 121) cdv))) :
    IXs (zbM (CX1 Pg w) Pg w K mg base ["_law_way", "_law_bad"] "_law_deed" (zaa (top 69)) (F 121) cdv A outer s H E) (clV CL) E (zbr (zah U fuel n) fuel ziE) (zae (top 69)) :=
  (zai (zgn (zb3 rfl (zcj hr.units) (zag 0 rfl za7 zay zaz) zav (zbc _)) (zai (zcJ (zar (i := 118) hx.x118 zaV hr zgY T.m118 T.f118.kp T.b118 (zad (zag 1 rfl zaX zaC zaD) zap zab) zaS zab zan))
    zaG) zaG)
    (zai (zgn (zb3 rfl (zcj hr.units) (zag 0 rfl za7 zay zaz) zav (zbc _)) (zai (zcJ (zar (i := 123) hx.x123 zaV hr zev T.m123 T.f123.kp T.b123 (zad (zag 1 rfl zaX zaC zaD) (zad zcQ (zad zcQ zap zac) zac) zab) zfI zab (zaj zac (zaj zac zan))))
    zaG) zaG)
    (zai (zgn (zb3 rfl (zcj hr.units) (zag 0 rfl za7 zay zaz) zav (zbc _)) (zai (zcJ (zar (i := 124) hx.x124 zaV hr zf3 T.m124 T.f124.kp T.b124 (zad (zag 1 rfl zaX zaC zaD) (zad zcQ zap zac) zab) zhB zab (zaj zac zan)))
    zaG) zaG)
    (zai (zgn (zb3 rfl (zcj hr.units) (zag 0 rfl za7 zay zaz) zav (zbc _)) (zai (zcJ (zar (i := 125) hx.x125 zaV hr zgZ T.m125 T.f125.kp T.b125 (zad (zag 1 rfl zaX zaC zaD) (zad (zbs (zad zav (zad zav zap zac) zac)) zap zaB) zab) ziU zab (zaj zaB zan)))
    zaG) zaG)
    (zai (zgn (zb3 rfl (zcj hr.units) (zag 0 rfl za7 zay zaz) zav (zbc _)) (zai (zcJ (zar (i := 126) hx.x126 zaV hr zhF T.m126 T.f126.kp T.b126 (zad (zag 1 rfl zaX zaC zaD) (zad (zbs (zad zav (zad zav zap zac) zac)) (zad zcQ (zad zcQ zap zac) zac) zaB) zab) zkw zab (zaj zaB (zaj zac (zaj zac zan)))))
    zaG) zaG)
    (zai (zgn (zb3 rfl (zcj hr.units) (zag 0 rfl za7 zay zaz) zav (zbc _)) (zai (zcJ (zar (i := 127) hx.x127 zaV hr zi1 T.m127 T.f127.kp T.b127 (zad (zag 1 rfl zaX zaC zaD) (zad zcQ (zad zcQ (zad zcQ zap zac) zac) zac) zab) zii zab (zaj zac (zaj zac (zaj zac zan)))))
    zaG) zaG)
    (zai (zgn (zb3 rfl (zcj hr.units) (zag 0 rfl za7 zay zaz) zav (zbc _)) (zai (zcJ (zar (i := 115) hx.x115 zaV hr zkH T.m115 T.f115.kp T.b115 (zad (zag 1 rfl zaX zaC zaD) (zad (zbs (zad zav (zad zav zap zac) zac)) zap zaB) zab) zoe zab (zaj zaB zan)))
    zaG) zaG)
    (zai (zcJ (zar (i := 116) hx.x116 zaV hr zeL T.m116 T.f116.kp T.b116 (zad (zag 1 rfl zaX zaC zaD) (zad zcQ zap zac) zab) zgK zab (zaj zac zan)))
    zaG))))))))
theorem zmj (T : Txt K mg F FD TK CL) (hall : ∀ i, FnOk Pg w K mg base CX0 n (F i) (FD i) (zaA i) (spA K (zah U fuel n) i (zcf i))) (hx : Xs Pg w K mg base F FD CL fuel n) (cdv : Value) (A : Around) (outer : List PySem.Env) (s : Shared) (H : Hp) (E : XK)
    (hr : Room n (A.deeper (envOfC "_law_more" (zaa (top 70)) s.heap.objs.size (F 122) cdv))) :
    IXs (zbM (CX1 Pg w) Pg w K mg base ["_law_way", "_law_bad"] "_law_more" (zaa (top 70)) (F 122) cdv A outer s H E) (clV CL) E (zbr (zah U fuel n) fuel ziF) (zae (top 70)) :=
  (zai (zgn (zb3 rfl (zcj hr.units) (zag 0 rfl zbo zay zaz) zav (zbc _)) (zai (zcJ (zar (i := 117) hx.x117 zaV hr zhG T.m117 T.f117.kp T.b117 (zad (zag 1 rfl zbb zaC zaD) (zad (zbs (zad zav (zad zav zap zac) zac)) (zad zcQ zap zac) zaB) zab) zkx zab (zaj zaB (zaj zac zan))))
    zaG) zaG)
    (zai (zgn (zb3 rfl (zcj hr.units) (zag 0 rfl zbo zay zaz) zav (zbc _)) (zai (zcJ (zar (i := 128) hx.x128 zaV hr zew T.m128 T.f128.kp T.b128 (zad (zag 1 rfl zbb zaC zaD) (zad zcQ zap zac) zab) zfJ zab (zaj zac zan)))
    zaG) zaG)
    (zai (zgn (zb3 rfl (zcj hr.units) (zag 0 rfl zbo zay zaz) zav (zbc _)) (zai (zcJ (zar (i := 129) hx.x129 zaV hr zi2 T.m129 T.f129.kp T.b129 (zad (zag 1 rfl zbb zaC zaD) (zad zcQ zap zac) zab) zlY zab (zaj zac zan)))
    zaG) zaG)
    (zai (zgn (zb3 rfl (zcj hr.units) (zag 0 rfl zbo zay zaz) zav (zbc _)) (zai (zcJ (zar (i := 130) hx.x130 zaV hr zf4 T.m130 T.f130.kp T.b130 (zad (zag 1 rfl zbb zaC zaD) (zad (zbs (zad zav (zad zav zap zac) zac)) zap zaB) zab) zhC zab (zaj zaB zan)))
    zaG) zaG)
    (zai (zgn (zb3 rfl (zcj hr.units) (zag 0 rfl zbo zay zaz) zav (zbc _)) (zai (zcJ (zar (i := 131) hx.x131 zaV hr zhH T.m131 T.f131.kp T.b131 (zad (zag 1 rfl zbb zaC zaD) (zad zcQ zap zac) zab) zky zab (zaj zac zan)))
    zaG) zaG)
    (zai (zcJ (zar (i := 132) hx.x132 zaV hr zi3 T.m132 T.f132.kp T.b132 (zad (zag 1 rfl zbb zaC zaD) zap zab) zlZ zab zan))
    zaG))))))
theorem zmk (T : Txt K mg F FD TK CL) (hall : ∀ i, FnOk Pg w K mg base CX0 n (F i) (FD i) (zaA i) (spA K (zah U fuel n) i (zcf i))) (hx : Xs Pg w K mg base F FD CL fuel n) (cdv : Value) (A : Around) (outer : List PySem.Env) (s : Shared) (H : Hp) (E : XK)
    (hr : Room n (A.deeper (envOfC "near_cells" (zaa (top 30)) s.heap.objs.size (F 123) cdv))) :
    IXs (zbM (CX1 Pg w) Pg w K mg base ["floor", "leap", "cell"] "near_cells" (zaa (top 30)) (F 123) cdv A outer s H E) (clV CL) E (zbr (zah U fuel n) fuel ziG) (zae (top 30)) :=
  (zai (zaW (zar (i := 118) hx.x118 zaV hr zg0 T.m118 T.f118.kp T.b118 (zad (zag 0 rfl ze6 zaI zaJ) zap zab) zaS zab zan))
    (zai (zaW (zar (i := 112) hx.x112 zaV hr zdu T.m112 T.f112.kp T.b112 (zad (zag 1 rfl zkI zbg zbh) zap zab) zaH zab zan))
    (zai (zaW (zar (i := 133) hx.x133 zaV hr zdv T.m133 T.f133.kp T.b133 (zad (zag 0 rfl ze6 zaI zaJ) (zad (zag 2 rfl zkJ zfK zfL) zap zab) zab) zbK zab (zaj zab zan)))
    zba)))
theorem zml (T : Txt K mg F FD TK CL) (hall : ∀ i, FnOk Pg w K mg base CX0 n (F i) (FD i) (zaA i) (spA K (zah U fuel n) i (zcf i))) (hx : Xs Pg w K mg base F FD CL fuel n) (cdv : Value) (A : Around) (outer : List PySem.Env) (s : Shared) (H : Hp) (E : XK)
    (hr : Room n (A.deeper (envOfC "parts_of" (zaa (top 31)) s.heap.objs.size (F 124) cdv))) :
    IXs (zbM (CX1 Pg w) Pg w K mg base ["floor", "leap"] "parts_of" (zaa (top 31)) (F 124) cdv A outer s H E) (clV CL) E (zbr (zah U fuel n) fuel ziH) (zae (top 31)) :=
  (zai (zaW (zar (i := 118) hx.x118 zaV hr zg1 T.m118 T.f118.kp T.b118 (zad (zag 0 rfl zi4 zaI zaJ) zap zab) zaS zab zan))
    (zai (zaW (zar (i := 112) hx.x112 zaV hr zdw T.m112 T.f112.kp T.b112 (zad (zag 1 rfl zkK zbg zbh) zap zab) zaH zab zan))
    zba))
theorem zmm (T : Txt K mg F FD TK CL) (hall : ∀ i, FnOk Pg w K mg base CX0 n (F i) (FD i) (zaA i) (spA K (zah U fuel n) i (zcf i))) (hx : Xs Pg w K mg base F FD CL fuel n) (cdv : Value) (A : Around) (outer : List PySem.Env) (s : Shared) (H : Hp) (E : XK)
    (hr : Room n (A.deeper (envOfC "hues_of" (zaa (top 32)) s.heap.objs.size (F 125) cdv))) :
    IXs (zbM (CX1 Pg w) Pg w K mg base ["floor", "leap"] "hues_of" (zaa (top 32)) (F 125) cdv A outer s H E) (clV CL) E (zbr (zah U fuel n) fuel ziI) (zae (top 32)) :=
  (zai (zaW (zar (i := 118) hx.x118 zaV hr zg2 T.m118 T.f118.kp T.b118 (zad (zag 0 rfl zi5 zaI zaJ) zap zab) zaS zab zan))
    (zai (zaW (zar (i := 112) hx.x112 zaV hr zdx T.m112 T.f112.kp T.b112 (zad (zag 1 rfl zkL zbg zbh) zap zab) zaH zab zan))
    zba))
theorem zmn (T : Txt K mg F FD TK CL) (hall : ∀ i, FnOk Pg w K mg base CX0 n (F i) (FD i) (zaA i) (spA K (zah U fuel n) i (zcf i))) (hx : Xs Pg w K mg base F FD CL fuel n) (cdv : Value) (A : Around) (outer : List PySem.Env) (s : Shared) (H : Hp) (E : XK)
    (hr : Room n (A.deeper (envOfC "fewest" (zaa (top 63)) s.heap.objs.size (F 126) cdv))) :
    IXs (zbM (CX1 Pg w) Pg w K mg base ["floor", "leap", "one", "other", "way"] "fewest" (zaa (top 63)) (F 126) cdv A outer s H E) (clV CL) E (zbr (zah U fuel n) fuel ziJ) (zae (top 63)) :=
  (zai (ztj (zar (i := 127) hx.x127 zaV hr zi8 T.m127 T.f127.kp T.b127 (zad (zag 0 rfl zi7 zaI zaJ) (zad (zag 1 rfl zkM zbg zbh) (zad (zag 2 rfl zl8 zmS zmT) (zad (zag 3 rfl zi6 zij zik) zap zab) zab) zab) zab) zii zab (zaj zab (zaj zab (zaj zab zan)))) 4 zqW.nd rfl zl9)
    zba)
theorem zmo (T : Txt K mg F FD TK CL) (hall : ∀ i, FnOk Pg w K mg base CX0 n (F i) (FD i) (zaA i) (spA K (zah U fuel n) i (zcf i))) (hx : Xs Pg w K mg base F FD CL fuel n) (cdv : Value) (A : Around) (outer : List PySem.Env) (s : Shared) (H : Hp) (E : XK)
    (hr : Room n (A.deeper (envOfC "a_way" (zaa (top 62)) s.heap.objs.size (F 127) cdv))) :
    IXs (zbM (CX1 Pg w) Pg w K mg base ["floor", "leap", "one", "other", "leads", "way"] "a_way" (zaa (top 62)) (F 127) cdv A outer s H E) (clV CL) E (zbr (zah U fuel n) fuel ziK) (zae (top 62)) :=
  (zai (zaW (zar (i := 118) hx.x118 zaV hr zg3 T.m118 T.f118.kp T.b118 (zad (zag 0 rfl zdy zaI zaJ) zap zab) zaS zab zan))
    (zai (zaW (zar (i := 112) hx.x112 zaV hr zdz T.m112 T.f112.kp T.b112 (zad (zag 1 rfl zkN zbg zbh) zap zab) zaH zab zan))
    (zai (zaW (zar (i := 133) hx.x133 zaV hr zb1 T.m133 T.f133.kp T.b133 (zad (zag 0 rfl zdy zaI zaJ) (zad (zag 2 rfl zma zmS zmT) zap zab) zab) zbK zab (zaj zab zan)))
    (zai (zaW (zar (i := 133) hx.x133 zaV hr zb1 T.m133 T.f133.kp T.b133 (zad (zag 0 rfl zdy zaI zaJ) (zad (zag 3 rfl zi9 zij zik) zap zab) zab) zbK zab (zaj zab zan)))
    zba))))
theorem zmp (T : Txt K mg F FD TK CL) (hall : ∀ i, FnOk Pg w K mg base CX0 n (F i) (FD i) (zaA i) (spA K (zah U fuel n) i (zcf i))) (hx : Xs Pg w K mg base F FD CL fuel n) (cdv : Value) (A : Around) (outer : List PySem.Env) (s : Shared) (H : Hp) (E : XK)
    (hr : Room n (A.deeper (envOfC "most_pairs" (zaa (top 40)) s.heap.objs.size (F 128) cdv))) :
    IXs (zbM (CX1 Pg w) Pg w K mg base ["floor", "leap"] "most_pairs" (zaa (top 40)) (F 128) cdv A outer s H E) (clV CL) E (zbr (zah U fuel n) fuel ziL) (zae (top 40)) :=
  (zai (zaW (zar (i := 118) hx.x118 zaV hr zg4 T.m118 T.f118.kp T.b118 (zad (zag 0 rfl zja zaI zaJ) zap zab) zaS zab zan))
    (zai (zaW (zar (i := 112) hx.x112 zaV hr zdA T.m112 T.f112.kp T.b112 (zad (zag 1 rfl zkO zbg zbh) zap zab) zaH zab zan))
    zba))
theorem zmq (T : Txt K mg F FD TK CL) (hall : ∀ i, FnOk Pg w K mg base CX0 n (F i) (FD i) (zaA i) (spA K (zah U fuel n) i (zcf i))) (hx : Xs Pg w K mg base F FD CL fuel n) (cdv : Value) (A : Around) (outer : List PySem.Env) (s : Shared) (H : Hp) (E : XK)
    (hr : Room n (A.deeper (envOfC "cover" (zaa (top 41)) s.heap.objs.size (F 129) cdv))) :
    IXs (zbM (CX1 Pg w) Pg w K mg base ["floor", "leap"] "cover" (zaa (top 41)) (F 129) cdv A outer s H E) (clV CL) E (zbr (zah U fuel n) fuel ziM) (zae (top 41)) :=
  (zai (zcJ (zar (i := 134) hx.x134 zaV hr zcV T.m134 T.f134.kp T.b134 (zad (zag 0 rfl zjb zaI zaJ) (zad (zag 1 rfl zkP zbg zbh) (zad znx zap zac) zab) zab) zb0 zab (zaj zab (zaj zac zan))))
    zaG)
theorem zmr (T : Txt K mg F FD TK CL) (hall : ∀ i, FnOk Pg w K mg base CX0 n (F i) (FD i) (zaA i) (spA K (zah U fuel n) i (zcf i))) (hx : Xs Pg w K mg base F FD CL fuel n) (cdv : Value) (A : Around) (outer : List PySem.Env) (s : Shared) (H : Hp) (E : XK)
    (hr : Room n (A.deeper (envOfC "peaceful" (zaa (top 42)) s.heap.objs.size (F 130) cdv))) :
    IXs (zbM (CX1 Pg w) Pg w K mg base ["floor", "leap"] "peaceful" (zaa (top 42)) (F 130) cdv A outer s H E) (clV CL) E (zbr (zah U fuel n) fuel ziN) (zae (top 42)) :=
  (zai (zcJ (zar (i := 134) hx.x134 zaV hr zcW T.m134 T.f134.kp T.b134 (zad (zag 0 rfl zjc zaI zaJ) (zad (zag 1 rfl zkQ zbg zbh) (zad znx zap zac) zab) zab) zb0 zab (zaj zab (zaj zac zan))))
    zaG)
theorem zms (T : Txt K mg F FD TK CL) (hall : ∀ i, FnOk Pg w K mg base CX0 n (F i) (FD i) (zaA i) (spA K (zah U fuel n) i (zcf i))) (hx : Xs Pg w K mg base F FD CL fuel n) (cdv : Value) (A : Around) (outer : List PySem.Env) (s : Shared) (H : Hp) (E : XK)
    (hr : Room n (A.deeper (envOfC "paired" (zaa (top 43)) s.heap.objs.size (F 131) cdv))) :
    IXs (zbM (CX1 Pg w) Pg w K mg base ["floor", "leap", "mates", "alone", "found"] "paired" (zaa (top 43)) (F 131) cdv A outer s H E) (clV CL) E (zbr (zah U fuel n) fuel ziO) (zae (top 43)) :=
  (zai (zaW (zar (i := 118) hx.x118 zaV hr zg5 T.m118 T.f118.kp T.b118 (zad (zag 0 rfl zjd zaI zaJ) zap zab) zaS zab zan))
    (zai (zaW (zar (i := 112) hx.x112 zaV hr zdB T.m112 T.f112.kp T.b112 (zad (zag 1 rfl zkR zbg zbh) zap zab) zaH zab zan))
    zba))
theorem zmt (T : Txt K mg F FD TK CL) (hall : ∀ i, FnOk Pg w K mg base CX0 n (F i) (FD i) (zaA i) (spA K (zah U fuel n) i (zcf i))) (hx : Xs Pg w K mg base F FD CL fuel n) (cdv : Value) (A : Around) (outer : List PySem.Env) (s : Shared) (H : Hp) (E : XK)
    (hr : Room n (A.deeper (envOfC "shown" (zaa (top 46)) s.heap.objs.size (F 132) cdv))) :
    IXs (zbM (CX1 Pg w) Pg w K mg base ["floor", "width"] "shown" (zaa (top 46)) (F 132) cdv A outer s H E) (clV CL) E (zbr (zah U fuel n) fuel ziP) (zae (top 46)) :=
  (zai (zaW (zar (i := 118) hx.x118 zaV hr zg6 T.m118 T.f118.kp T.b118 (zad (zag 0 rfl zje zaI zaJ) zap zab) zaS zab zan))
    zba)
theorem zmu (T : Txt K mg F FD TK CL) (hall : ∀ i, FnOk Pg w K mg base CX0 n (F i) (FD i) (zaA i) (spA K (zah U fuel n) i (zcf i))) (hx : Xs Pg w K mg base F FD CL fuel n) (cdv : Value) (A : Around) (outer : List PySem.Env) (s : Shared) (H : Hp) (E : XK)
    (hr : Room n (A.deeper (envOfC "checked_cell" (zaa (top 19)) s.heap.objs.size (F 133) cdv))) :
    IXs (zbM (CX1 Pg w) Pg w K mg base ["floor", "cell"] "checked_cell" (zaa (top 19)) (F 133) cdv A outer s H E) (clV CL) E (zbr (zah U fuel n) fuel zlL) (zae (top 19)) :=
  (zai (zgn (IW.t (zrb (zfl (zfn (zaT (zaM (hall 2) rfl) hr zg7 T.m2 T.f2.kp (T.b2) (zad (zag 1 rfl zex zfK zfL) zap zab) zeZ zab zan) (zee _ _) zck)) (zli (zb3 rfl (zpv hr.units) (zag 1 rfl zex zfK zfL) (zag 0 rfl zjf zaI zaJ) (by with_unfolding_all rfl))))) (zai (zfr (cl := clV CL) 3 rfl (fun _ _ _ _ _ _ _ _ I m q => zlt I m q) T.q3 rfl zhI T.y3 zf5 (fun _ _ _ h => h _) zkz zac)
    zaG) zaG)
    (zai (zrc (zhY 1 rfl zex zfK zfL))
    zaG))
theorem zmv (T : Txt K mg F FD TK CL) (hall : ∀ i, FnOk Pg w K mg base CX0 n (F i) (FD i) (zaA i) (spA K (zah U fuel n) i (zcf i))) (hx : Xs Pg w K mg base F FD CL fuel n) (cdv : Value) (A : Around) (outer : List PySem.Env) (s : Shared) (H : Hp) (E : XK)
    (hr : Room n (A.deeper (envOfC "cells_by_cover" (zaa (top 39)) s.heap.objs.size (F 134) cdv))) :
    IXs (zbM (CX1 Pg w) Pg w K mg base ["floor", "leap", "covering", "found"] "cells_by_cover" (zaa (top 39)) (F 134) cdv A outer s H E) (clV CL) E (zbr (zah U fuel n) fuel ziQ) (zae (top 39)) :=
  (zai (zaW (zar (i := 118) hx.x118 zaV hr zg8 T.m118 T.f118.kp T.b118 (zad (zag 0 rfl zjg zaI zaJ) zap zab) zaS zab zan))
    (zai (zaW (zar (i := 112) hx.x112 zaV hr zdC T.m112 T.f112.kp T.b112 (zad (zag 1 rfl zkS zbg zbh) zap zab) zaH zab zan))
    zba))
theorem zbO (T : Txt K mg F FD TK CL) (hall : ∀ i, FnOk Pg w K mg base CX0 n (F i) (FD i) (zaA i) (spA K (zah U fuel n) i (zcf i))) (hx : Xs Pg w K mg base F FD CL fuel n) : Xs Pg w K mg base F FD CL fuel (n + 1) where
  x112 := zbe (F0 := ⟨1, 1, .nil, [], some zlJ⟩) T.f112 zub rfl rfl rfl rfl (zmb T hall hx)
  x115 := zbe (F0 := ⟨2, 4, .nil, [], some ziA⟩) T.f115 zuc rfl rfl rfl rfl (zmc T hall hx)
  x116 := zbe (F0 := ⟨2, 3, .nil, [], some ziB⟩) T.f116 zud rfl rfl rfl rfl (zmd T hall hx)
  x117 := zbe (F0 := ⟨3, 5, .nil, [], some ziC⟩) T.f117 zue rfl rfl rfl rfl (zme T hall hx)
  x118 := zbe (F0 := ⟨1, 1, .nil, [], some ziD⟩) T.f118 zuf rfl rfl rfl rfl (zmf T hall hx)
  x119 := zbe (F0 := ⟨2, 2, .nil, [], some zlK⟩) T.f119 zug rfl rfl rfl rfl (zmg T hall hx)
  x120 := zbe (F0 := ⟨2, 3, .nil, [], some zhw⟩) T.f120 zqV rfl rfl rfl rfl (zmh T hall hx)
  x121 := zbe (F0 := ⟨2, 2, .nil, [], some ziE⟩) T.f121 zuh rfl rfl rfl rfl (zmi T hall hx)
  x122 := zbe (F0 := ⟨2, 2, .nil, [], some ziF⟩) T.f122 zui rfl rfl rfl rfl (zmj T hall hx)
  x123 := zbe (F0 := ⟨3, 3, .nil, [], some ziG⟩) T.f123 zuj rfl rfl rfl rfl (zmk T hall hx)
  x124 := zbe (F0 := ⟨2, 2, .nil, [], some ziH⟩) T.f124 zuk rfl rfl rfl rfl (zml T hall hx)
  x125 := zbe (F0 := ⟨2, 2, .nil, [], some ziI⟩) T.f125 zul rfl rfl rfl rfl (zmm T hall hx)
  x126 := zbe (F0 := ⟨4, 5, .nil, [], some ziJ⟩) T.f126 zqW rfl rfl rfl rfl (zmn T hall hx)
  x127 := zbe (F0 := ⟨4, 6, .nil, [], some ziK⟩) T.f127 zum rfl rfl rfl rfl (zmo T hall hx)
  x128 := zbe (F0 := ⟨2, 2, .nil, [], some ziL⟩) T.f128 zun rfl rfl rfl rfl (zmp T hall hx)
  x129 := zbe (F0 := ⟨2, 2, .nil, [], some ziM⟩) T.f129 zuo rfl rfl rfl rfl (zmq T hall hx)
  x130 := zbe (F0 := ⟨2, 2, .nil, [], some ziN⟩) T.f130 zup rfl rfl rfl rfl (zmr T hall hx)
  x131 := zbe (F0 := ⟨2, 5, .nil, [], some ziO⟩) T.f131 zuq rfl rfl rfl rfl (zms T hall hx)
  x132 := zbe (F0 := ⟨1, 2, .nil, [], some ziP⟩) T.f132 zur rfl rfl rfl rfl (zmt T hall hx)
  x133 := zbe (F0 := ⟨2, 2, .nil, [], some zlL⟩) T.f133 zus rfl rfl rfl rfl (zmu T hall hx)
  x134 := zbe (F0 := ⟨3, 4, .nil, [], some ziQ⟩) T.f134 zut rfl rfl rfl rfl (zmv T hall hx)
theorem zas (T : Txt K mg F FD TK CL) : ∀ n, (∀ i, FnOk Pg w K mg base CX0 n (F i) (FD i) (zaA i) (spA K (zah U fuel n) i (zcf i))) ∧ Xs Pg w K mg base F FD CL fuel n
  | 0 => ⟨fun _ => znK, ⟨zaP, zaP, zaP, zaP, zaP, zaP, zaP, zaP, zaP, zaP, zaP, zaP, zaP, zaP, zaP, zaP, zaP, zaP, zaP, zaP, zaP⟩⟩
  | n + 1 => ⟨fun i => match i with
    | 0 => zdU (F0 := ⟨3, 3, ir0, [], none⟩) T.f0 sc0 rfl rfl rfl rfl (by decide) rfl (zuu T (zas T n).1)
    | 1 => zdU (F0 := ⟨1, 1, ir1, [], none⟩) T.f1 sc1 rfl rfl rfl rfl (by decide) rfl (zuv T (zas T n).1)
    | 2 => zdU (F0 := ⟨1, 1, ir2, [], none⟩) T.f2 sc2 rfl rfl rfl rfl (by decide) rfl (zuw T (zas T n).1)
    | 3 => zdU (F0 := ⟨1, 1, ir3, [], none⟩) T.f3 sc3 rfl rfl rfl rfl (by decide) rfl (zux T (zas T n).1)
    | 4 => zdU (F0 := ⟨1, 1, ir4, [], none⟩) T.f4 sc4 rfl rfl rfl rfl (by decide) rfl (zuy T (zas T n).1)
    | 5 => zdU (F0 := ⟨1, 1, ir5, [], none⟩) T.f5 sc5 rfl rfl rfl rfl (by decide) rfl (zuz T (zas T n).1)
    | 6 => zdU (F0 := ⟨1, 1, ir6, [], none⟩) T.f6 sc6 rfl rfl rfl rfl (by decide) rfl (zuA T (zas T n).1)
    | 7 => zaf rfl
    | 8 => zaf rfl
    | 9 => zaf rfl
    | 10 => zaf rfl
    | 11 => zaf rfl
    | 12 => zaf rfl
    | 13 => zdU (F0 := ⟨2, 2, zqx, [], none⟩) T.f13 zv8 rfl rfl rfl rfl (by decide) rfl (zqX T (zas T n).1)
    | 14 => zdU (F0 := ⟨3, 3, zqy, [], none⟩) T.f14 zv9 rfl rfl rfl rfl (by decide) rfl (zqY T (zas T n).1)
    | 15 => zdU (F0 := ⟨3, 13, zqz, [], none⟩) T.f15 zjk rfl rfl rfl rfl (by decide) rfl (zqZ T (zas T n).1)
    | 16 => zaf rfl
    | 17 => zaf rfl
    | 18 => zaf rfl
    | 19 => zaf rfl
    | 20 => zaf rfl
    | 21 => zaf rfl
    | 22 => zaf rfl
    | 23 => zaf rfl
    | 24 => zaf rfl
    | 25 => zaf rfl
    | 26 => zaf rfl
    | 27 => zaf rfl
    | 28 => zaf rfl
    | 29 => zaf rfl
    | 30 => zaf rfl
    | 31 => zaf rfl
    | 32 => zaf rfl
    | 33 => zaf rfl
    | 34 => zaf rfl
    | 35 => zaf rfl
    | 36 => zaf rfl
    | 37 => zaf rfl
    | 38 => zaf rfl
    | 39 => zaf rfl
    | 40 => zaf rfl
    | 41 => zaf rfl
    | 42 => zaf rfl
    | 43 => zaf rfl
    | 44 => zaf rfl
    | 45 => zaf rfl
    | 46 => zaf rfl
    | 47 => zaf rfl
    | 48 => zaf rfl
    | 49 => zaf rfl
    | 50 => zaf rfl
    | 51 => zaf rfl
    | 52 => zaf rfl
    | 53 => zaf rfl
    | 54 => zaf rfl
    | 55 => zaf rfl
    | 56 => zaf rfl
    | 57 => zaf rfl
    | 58 => zaf rfl
    | 59 => zaf rfl
    | 60 => zaf rfl
    | 61 => zaf rfl
    | 62 => zaf rfl
    | 63 => zaf rfl
    | 64 => zaf rfl
    | 65 => zaf rfl
    | 66 => zaf rfl
    | 67 => zaf rfl
    | 68 => zaf rfl
    | 69 => zaf rfl
    | 70 => zaf rfl
    | 71 => zaf rfl
    | 72 => zaf rfl
    | 73 => zaf rfl
    | 74 => zaf rfl
    | 75 => zaf rfl
    | 76 => zaf rfl
    | 77 => zaf rfl
    | 78 => zaf rfl
    | 79 => zaf rfl
    | 80 => zaf rfl
    | 81 => zaf rfl
    | 82 => zaf rfl
    | 83 => zaf rfl
    | 84 => zaf rfl
    | 85 => zaf rfl
    | 86 => zaf rfl
    | 87 => zaf rfl
    | 88 => zdU (F0 := ⟨2, 6, zqA, [], none⟩) T.f88 zmU rfl rfl rfl rfl (by decide) rfl (zq0 T (zas T n).1)
    | 89 => zaf rfl
    | 90 => zaf rfl
    | 91 => zaf rfl
    | 92 => zdU (F0 := ⟨1, 3, zoB, [], none⟩) T.f92 zua rfl rfl rfl rfl (by decide) rfl (zq1 T (zas T n).1)
    | 93 => zaf rfl
    | 94 => zaf rfl
    | 95 => zaf rfl
    | 96 => zaf rfl
    | 97 => zaf rfl
    | 98 => zaf rfl
    | 99 => zaf rfl
    | 100 => zaf rfl
    | 101 => zaf rfl
    | 102 => zaf rfl
    | 103 => zaf rfl
    | 104 => zaf rfl
    | 105 => zaf rfl
    | 106 => zaf rfl
    | 107 => zaf rfl
    | 108 => zaf rfl
    | 109 => zaf rfl
    | 110 => zaf rfl
    | 111 => zaf rfl
    | 112 => zaY (F0 := ⟨1, 1, .nil, [], some zlJ⟩) (zbO T (zas T n).1 (zas T n).2).x112 rfl rfl
    | 113 => zaf rfl
    | 114 => zaf rfl
    | 115 => zaY (F0 := ⟨2, 4, .nil, [], some ziA⟩) (zbO T (zas T n).1 (zas T n).2).x115 rfl rfl
    | 116 => zaY (F0 := ⟨2, 3, .nil, [], some ziB⟩) (zbO T (zas T n).1 (zas T n).2).x116 rfl rfl
    | 117 => zaY (F0 := ⟨3, 5, .nil, [], some ziC⟩) (zbO T (zas T n).1 (zas T n).2).x117 rfl rfl
    | 118 => zaY (F0 := ⟨1, 1, .nil, [], some ziD⟩) (zbO T (zas T n).1 (zas T n).2).x118 rfl rfl
    | 119 => zaY (F0 := ⟨2, 2, .nil, [], some zlK⟩) (zbO T (zas T n).1 (zas T n).2).x119 rfl rfl
    | 120 => zaY (F0 := ⟨2, 3, .nil, [], some zhw⟩) (zbO T (zas T n).1 (zas T n).2).x120 rfl rfl
    | 121 => zaY (F0 := ⟨2, 2, .nil, [], some ziE⟩) (zbO T (zas T n).1 (zas T n).2).x121 rfl rfl
    | 122 => zaY (F0 := ⟨2, 2, .nil, [], some ziF⟩) (zbO T (zas T n).1 (zas T n).2).x122 rfl rfl
    | 123 => zaY (F0 := ⟨3, 3, .nil, [], some ziG⟩) (zbO T (zas T n).1 (zas T n).2).x123 rfl rfl
    | 124 => zaY (F0 := ⟨2, 2, .nil, [], some ziH⟩) (zbO T (zas T n).1 (zas T n).2).x124 rfl rfl
    | 125 => zaY (F0 := ⟨2, 2, .nil, [], some ziI⟩) (zbO T (zas T n).1 (zas T n).2).x125 rfl rfl
    | 126 => zaY (F0 := ⟨4, 5, .nil, [], some ziJ⟩) (zbO T (zas T n).1 (zas T n).2).x126 rfl rfl
    | 127 => zaY (F0 := ⟨4, 6, .nil, [], some ziK⟩) (zbO T (zas T n).1 (zas T n).2).x127 rfl rfl
    | 128 => zaY (F0 := ⟨2, 2, .nil, [], some ziL⟩) (zbO T (zas T n).1 (zas T n).2).x128 rfl rfl
    | 129 => zaY (F0 := ⟨2, 2, .nil, [], some ziM⟩) (zbO T (zas T n).1 (zas T n).2).x129 rfl rfl
    | 130 => zaY (F0 := ⟨2, 2, .nil, [], some ziN⟩) (zbO T (zas T n).1 (zas T n).2).x130 rfl rfl
    | 131 => zaY (F0 := ⟨2, 5, .nil, [], some ziO⟩) (zbO T (zas T n).1 (zas T n).2).x131 rfl rfl
    | 132 => zaY (F0 := ⟨1, 2, .nil, [], some ziP⟩) (zbO T (zas T n).1 (zas T n).2).x132 rfl rfl
    | 133 => zaY (F0 := ⟨2, 2, .nil, [], some zlL⟩) (zbO T (zas T n).1 (zas T n).2).x133 rfl rfl
    | 134 => zaY (F0 := ⟨3, 4, .nil, [], some ziQ⟩) (zbO T (zas T n).1 (zas T n).2).x134 rfl rfl
    | _ + 135 => zaf rfl, zbO T (zas T n).1 (zas T n).2⟩
theorem zq2 (T : Txt K mg F FD TK CL) (n i : Nat) : FnOk Pg w K mg base CX0 n (F i) (FD i) (zaA i) (spA K (zah U fuel n) i (zcf i)) := (zas T n).1 i
theorem zq3 {h : Heap} (X : K.In h) (G : h.Ns mainGlobals mg) {f0 f1 f2 f3 f4 f5 f6 f13 f14 f15 f88 f92 f112 f115 f116 f117 f119 f120 f121 f122 f123 f124 f125 f126 f127 f128 f129 f130 f131 f132 f133 f134 : Addr} {od0 od1 od2 od3 od4 od5 od6 od13 od14 od15 od88 od92 od112 od115 od116 od117 od119 od120 od121 od122 od123 od124 od125 od126 od127 od128 od129 od130 od131 od132 od133 od134 an0 an1 an2 an3 an4 an5 an6 an13 an14 an15 an88 an92 an112 an115 an116 an117 an119 an120 an121 an122 an123 an124 an125 an126 an127 an128 an129 an130 an131 an132 an133 an134 : Option Addr} {sl0 sl1 sl2 sl3 sl4 sl5 sl6 sl13 sl14 sl15 sl88 sl92 sl112 sl115 sl116 sl117 sl119 sl120 sl121 sl122 sl123 sl124 sl125 sl126 sl127 sl128 sl129 sl130 sl131 sl132 sl133 sl134 : Array (Option Value)} {oc0 oc1 oc2 oc3 oc4 oc5 oc6 oc13 oc14 oc15 oc88 oc92 oc112 oc115 oc116 oc117 oc119 oc120 oc121 oc122 oc123 oc124 oc125 oc126 oc127 oc128 oc129 oc130 oc131 oc132 oc133 oc134 kV0 kV1 kV2 kV3 kV4 kV5 kV6 kV13 kV14 kV15 kV88 kV92 kV112 kV115 kV116 kV117 kV119 kV120 kV121 kV122 kV123 kV124 kV125 kV126 kV127 kV128 kV129 kV130 kV131 kV132 kV133 kV134 dc0 dc1 dc2 dc3 dc4 dc5 dc6 dc13 dc14 dc15 dc88 dc92 dc112 dc115 dc116 dc117 dc119 dc120 dc121 dc122 dc123 dc124 dc125 dc126 dc127 dc128 dc129 dc130 dc131 dc132 dc133 dc134 pm0 pm1 pm2 pm3 pm4 pm5 pm6 pm13 pm14 pm15 pm88 pm92 pm112 pm115 pm116 pm117 pm119 pm120 pm121 pm122 pm123 pm124 pm125 pm126 pm127 pm128 pm129 pm130 pm131 pm132 pm133 pm134 cd0 cd1 cd2 cd3 cd4 cd5 cd6 cd13 cd14 cd15 cd88 cd92 cd112 cd115 cd116 cd117 cd119 cd120 cd121 cd122 cd123 cd124 cd125 cd126 cd127 cd128 cd129 cd130 cd131 cd132 cd133 cd134 ct0 ct1 ct2 ct3 ct4 ct5 ct6 ct13 ct14 ct15 ct88 ct92 ct112 ct115 ct116 ct117 ct119 ct120 ct121 ct122 ct123 ct124 ct125 ct126 ct127 ct128 ct129 ct130 ct131 ct132 ct133 ct134 : Value} {t0 t1 t2 t3 t4 : Tok} {C0 C1 C2 C3 C4 C5 : Addr}
    (a0 : PySem.W.nsIn K mainGlobals "is_whole" = some (some (.ref f0))) (l0 : K.lookup f0 = some ⟨oc0, od0, .func (PySem.W.fnOf "is_whole" "is_whole" (zam (top 11)) (zae (top 11)) (zaa (top 11)) .none kV0 dc0 pm0 an0 cd0 ct0), sl0⟩) (e0 : PySem.W.codeIn K cd0 "is_whole" = true) (k0 : PySem.W.keepIn K (.ref f0) = true)
    (a1 : PySem.W.nsIn K mainGlobals "is_couple" = some (some (.ref f1))) (l1 : K.lookup f1 = some ⟨oc1, od1, .func (PySem.W.fnOf "is_couple" "is_couple" (zam (top 12)) (zae (top 12)) (zaa (top 12)) .none kV1 dc1 pm1 an1 cd1 ct1), sl1⟩) (e1 : PySem.W.codeIn K cd1 "is_couple" = true) (k1 : PySem.W.keepIn K (.ref f1) = true)
    (a2 : PySem.W.nsIn K mainGlobals "is_cell" = some (some (.ref f2))) (l2 : K.lookup f2 = some ⟨oc2, od2, .func (PySem.W.fnOf "is_cell" "is_cell" (zam (top 13)) (zae (top 13)) (zaa (top 13)) .none kV2 dc2 pm2 an2 cd2 ct2), sl2⟩) (e2 : PySem.W.codeIn K cd2 "is_cell" = true) (k2 : PySem.W.keepIn K (.ref f2) = true)
    (a3 : PySem.W.nsIn K mainGlobals "is_leap" = some (some (.ref f3))) (l3 : K.lookup f3 = some ⟨oc3, od3, .func (PySem.W.fnOf "is_leap" "is_leap" (zam (top 14)) (zae (top 14)) (zaa (top 14)) .none kV3 dc3 pm3 an3 cd3 ct3), sl3⟩) (e3 : PySem.W.codeIn K cd3 "is_leap" = true) (k3 : PySem.W.keepIn K (.ref f3) = true)
    (a4 : PySem.W.nsIn K mainGlobals "is_rising" = some (some (.ref f4))) (l4 : K.lookup f4 = some ⟨oc4, od4, .func (PySem.W.fnOf "is_rising" "is_rising" (zam (top 15)) (zae (top 15)) (zaa (top 15)) .none kV4 dc4 pm4 an4 cd4 ct4), sl4⟩) (e4 : PySem.W.codeIn K cd4 "is_rising" = true) (k4 : PySem.W.keepIn K (.ref f4) = true)
    (a5 : PySem.W.nsIn K mainGlobals "is_floor" = some (some (.ref f5))) (l5 : K.lookup f5 = some ⟨oc5, od5, .func (PySem.W.fnOf "is_floor" "is_floor" (zam (top 16)) (zae (top 16)) (zaa (top 16)) .none kV5 dc5 pm5 an5 cd5 ct5), sl5⟩) (e5 : PySem.W.codeIn K cd5 "is_floor" = true) (k5 : PySem.W.keepIn K (.ref f5) = true)
    (a6 : PySem.W.nsIn K mainGlobals "checked" = some (some (.ref f6))) (l6 : K.lookup f6 = some ⟨oc6, od6, .func (PySem.W.fnOf "checked" "checked" (zam (top 17)) (zae (top 17)) (zaa (top 17)) .none kV6 dc6 pm6 an6 cd6 ct6), sl6⟩) (e6 : PySem.W.codeIn K cd6 "checked" = true) (k6 : PySem.W.keepIn K (.ref f6) = true)
    (a13 : PySem.W.nsIn K mainGlobals "_law_cell" = some (some (.ref f13))) (l13 : K.lookup f13 = some ⟨oc13, od13, .func (PySem.W.fnOf "_law_cell" "_law_cell" (zam (top 65)) (zae (top 65)) (zaa (top 65)) .none kV13 dc13 pm13 an13 cd13 ct13), sl13⟩) (e13 : PySem.W.codeIn K cd13 "_law_cell" = true) (k13 : PySem.W.keepIn K (.ref f13) = true)
    (a14 : PySem.W.nsIn K mainGlobals "_law_mix" = some (some (.ref f14))) (l14 : K.lookup f14 = some ⟨oc14, od14, .func (PySem.W.fnOf "_law_mix" "_law_mix" (zam (top 66)) (zae (top 66)) (zaa (top 66)) .none kV14 dc14 pm14 an14 cd14 ct14), sl14⟩) (e14 : PySem.W.codeIn K cd14 "_law_mix" = true) (k14 : PySem.W.keepIn K (.ref f14) = true)
    (a15 : PySem.W.nsIn K mainGlobals "_law_floor" = some (some (.ref f15))) (l15 : K.lookup f15 = some ⟨oc15, od15, .func (PySem.W.fnOf "_law_floor" "_law_floor" (zam (top 67)) (zae (top 67)) (zaa (top 67)) .none kV15 dc15 pm15 an15 cd15 ct15), sl15⟩) (e15 : PySem.W.codeIn K cd15 "_law_floor" = true) (k15 : PySem.W.keepIn K (.ref f15) = true)
    (a88 : PySem.W.nsIn K mainGlobals "_law_spoilt" = some (some (.ref f88))) (l88 : K.lookup f88 = some ⟨oc88, od88, .func (PySem.W.fnOf "_law_spoilt" "_law_spoilt" (zam (top 68)) (zae (top 68)) (zaa (top 68)) .none kV88 dc88 pm88 an88 cd88 ct88), sl88⟩) (e88 : PySem.W.codeIn K cd88 "_law_spoilt" = true) (k88 : PySem.W.keepIn K (.ref f88) = true)
    (a92 : PySem.W.nsIn K mainGlobals "law" = some (some (.ref f92))) (l92 : K.lookup f92 = some ⟨oc92, od92, .func (PySem.W.fnOf "law" "law" (zam (top 72)) (zae (top 72)) (zaa (top 72)) .none kV92 dc92 pm92 an92 cd92 ct92), sl92⟩) (e92 : PySem.W.codeIn K cd92 "law" = true) (k92 : PySem.W.keepIn K (.ref f92) = true)
    (a112 : PySem.W.nsIn K mainGlobals "checked_leap" = some (some (.ref f112))) (l112 : K.lookup f112 = some ⟨oc112, od112, .func (PySem.W.fnOf "checked_leap" "checked_leap" (zam (top 18)) (zae (top 18)) (zaa (top 18)) .none kV112 dc112 pm112 an112 cd112 ct112), sl112⟩) (e112 : PySem.W.codeIn K cd112 "checked_leap" = true) (k112 : PySem.W.keepIn K (.ref f112) = true)
    (a115 : PySem.W.nsIn K mainGlobals "walk" = some (some (.ref f115))) (l115 : K.lookup f115 = some ⟨oc115, od115, .func (PySem.W.fnOf "walk" "walk" (zam (top 56)) (zae (top 56)) (zaa (top 56)) .none kV115 dc115 pm115 an115 cd115 ct115), sl115⟩) (e115 : PySem.W.codeIn K cd115 "walk" = true) (k115 : PySem.W.keepIn K (.ref f115) = true)
    (a116 : PySem.W.nsIn K mainGlobals "ring_walk" = some (some (.ref f116))) (l116 : K.lookup f116 = some ⟨oc116, od116, .func (PySem.W.fnOf "ring_walk" "ring_walk" (zam (top 57)) (zae (top 57)) (zaa (top 57)) .none kV116 dc116 pm116 an116 cd116 ct116), sl116⟩) (e116 : PySem.W.codeIn K cd116 "ring_walk" = true) (k116 : PySem.W.keepIn K (.ref f116) = true)
    (a117 : PySem.W.nsIn K mainGlobals "cut_of" = some (some (.ref f117))) (l117 : K.lookup f117 = some ⟨oc117, od117, .func (PySem.W.fnOf "cut_of" "cut_of" (zam (top 60)) (zae (top 60)) (zaa (top 60)) .none kV117 dc117 pm117 an117 cd117 ct117), sl117⟩) (e117 : PySem.W.codeIn K cd117 "cut_of" = true) (k117 : PySem.W.keepIn K (.ref f117) = true)
    (a119 : PySem.W.nsIn K mainGlobals "refuse_big" = some (some (.ref f119))) (l119 : K.lookup f119 = some ⟨oc119, od119, .func (PySem.W.fnOf "refuse_big" "refuse_big" (zam (top 50)) (zae (top 50)) (zaa (top 50)) .none kV119 dc119 pm119 an119 cd119 ct119), sl119⟩) (e119 : PySem.W.codeIn K cd119 "refuse_big" = true) (k119 : PySem.W.keepIn K (.ref f119) = true)
    (a120 : PySem.W.nsIn K mainGlobals "_law_told" = some (some (.ref f120))) (l120 : K.lookup f120 = some ⟨oc120, od120, .func (PySem.W.fnOf "_law_told" "_law_told" (zam (top 71)) (zae (top 71)) (zaa (top 71)) .none kV120 dc120 pm120 an120 cd120 ct120), sl120⟩) (e120 : PySem.W.codeIn K cd120 "_law_told" = true) (k120 : PySem.W.keepIn K (.ref f120) = true)
    (a121 : PySem.W.nsIn K mainGlobals "_law_deed" = some (some (.ref f121))) (l121 : K.lookup f121 = some ⟨oc121, od121, .func (PySem.W.fnOf "_law_deed" "_law_deed" (zam (top 69)) (zae (top 69)) (zaa (top 69)) .none kV121 dc121 pm121 an121 cd121 ct121), sl121⟩) (e121 : PySem.W.codeIn K cd121 "_law_deed" = true) (k121 : PySem.W.keepIn K (.ref f121) = true)
    (a122 : PySem.W.nsIn K mainGlobals "_law_more" = some (some (.ref f122))) (l122 : K.lookup f122 = some ⟨oc122, od122, .func (PySem.W.fnOf "_law_more" "_law_more" (zam (top 70)) (zae (top 70)) (zaa (top 70)) .none kV122 dc122 pm122 an122 cd122 ct122), sl122⟩) (e122 : PySem.W.codeIn K cd122 "_law_more" = true) (k122 : PySem.W.keepIn K (.ref f122) = true)
    (a123 : PySem.W.nsIn K mainGlobals "near_cells" = some (some (.ref f123))) (l123 : K.lookup f123 = some ⟨oc123, od123, .func (PySem.W.fnOf "near_cells" "near_cells" (zam (top 30)) (zae (top 30)) (zaa (top 30)) .none kV123 dc123 pm123 an123 cd123 ct123), sl123⟩) (e123 : PySem.W.codeIn K cd123 "near_cells" = true) (k123 : PySem.W.keepIn K (.ref f123) = true)
    (a124 : PySem.W.nsIn K mainGlobals "parts_of" = some (some (.ref f124))) (l124 : K.lookup f124 = some ⟨oc124, od124, .func (PySem.W.fnOf "parts_of" "parts_of" (zam (top 31)) (zae (top 31)) (zaa (top 31)) .none kV124 dc124 pm124 an124 cd124 ct124), sl124⟩) (e124 : PySem.W.codeIn K cd124 "parts_of" = true) (k124 : PySem.W.keepIn K (.ref f124) = true)
    (a125 : PySem.W.nsIn K mainGlobals "hues_of" = some (some (.ref f125))) (l125 : K.lookup f125 = some ⟨oc125, od125, .func (PySem.W.fnOf "hues_of" "hues_of" (zam (top 32)) (zae (top 32)) (zaa (top 32)) .none kV125 dc125 pm125 an125 cd125 ct125), sl125⟩) (e125 : PySem.W.codeIn K cd125 "hues_of" = true) (k125 : PySem.W.keepIn K (.ref f125) = true)
    (a126 : PySem.W.nsIn K mainGlobals "fewest" = some (some (.ref f126))) (l126 : K.lookup f126 = some ⟨oc126, od126, .func (PySem.W.fnOf "fewest" "fewest" (zam (top 63)) (zae (top 63)) (zaa (top 63)) .none kV126 dc126 pm126 an126 cd126 ct126), sl126⟩) (e126 : PySem.W.codeIn K cd126 "fewest" = true) (k126 : PySem.W.keepIn K (.ref f126) = true)
    (a127 : PySem.W.nsIn K mainGlobals "a_way" = some (some (.ref f127))) (l127 : K.lookup f127 = some ⟨oc127, od127, .func (PySem.W.fnOf "a_way" "a_way" (zam (top 62)) (zae (top 62)) (zaa (top 62)) .none kV127 dc127 pm127 an127 cd127 ct127), sl127⟩) (e127 : PySem.W.codeIn K cd127 "a_way" = true) (k127 : PySem.W.keepIn K (.ref f127) = true)
    (a128 : PySem.W.nsIn K mainGlobals "most_pairs" = some (some (.ref f128))) (l128 : K.lookup f128 = some ⟨oc128, od128, .func (PySem.W.fnOf "most_pairs" "most_pairs" (zam (top 40)) (zae (top 40)) (zaa (top 40)) .none kV128 dc128 pm128 an128 cd128 ct128), sl128⟩) (e128 : PySem.W.codeIn K cd128 "most_pairs" = true) (k128 : PySem.W.keepIn K (.ref f128) = true)
    (a129 : PySem.W.nsIn K mainGlobals "cover" = some (some (.ref f129))) (l129 : K.lookup f129 = some ⟨oc129, od129, .func (PySem.W.fnOf "cover" "cover" (zam (top 41)) (zae (top 41)) (zaa (top 41)) .none kV129 dc129 pm129 an129 cd129 ct129), sl129⟩) (e129 : PySem.W.codeIn K cd129 "cover" = true) (k129 : PySem.W.keepIn K (.ref f129) = true)
    (a130 : PySem.W.nsIn K mainGlobals "peaceful" = some (some (.ref f130))) (l130 : K.lookup f130 = some ⟨oc130, od130, .func (PySem.W.fnOf "peaceful" "peaceful" (zam (top 42)) (zae (top 42)) (zaa (top 42)) .none kV130 dc130 pm130 an130 cd130 ct130), sl130⟩) (e130 : PySem.W.codeIn K cd130 "peaceful" = true) (k130 : PySem.W.keepIn K (.ref f130) = true)
    (a131 : PySem.W.nsIn K mainGlobals "paired" = some (some (.ref f131))) (l131 : K.lookup f131 = some ⟨oc131, od131, .func (PySem.W.fnOf "paired" "paired" (zam (top 43)) (zae (top 43)) (zaa (top 43)) .none kV131 dc131 pm131 an131 cd131 ct131), sl131⟩) (e131 : PySem.W.codeIn K cd131 "paired" = true) (k131 : PySem.W.keepIn K (.ref f131) = true)
    (a132 : PySem.W.nsIn K mainGlobals "shown" = some (some (.ref f132))) (l132 : K.lookup f132 = some ⟨oc132, od132, .func (PySem.W.fnOf "shown" "shown" (zam (top 46)) (zae (top 46)) (zaa (top 46)) .none kV132 dc132 pm132 an132 cd132 ct132), sl132⟩) (e132 : PySem.W.codeIn K cd132 "shown" = true) (k132 : PySem.W.keepIn K (.ref f132) = true)
    (a133 : PySem.W.nsIn K mainGlobals "checked_cell" = some (some (.ref f133))) (l133 : K.lookup f133 = some ⟨oc133, od133, .func (PySem.W.fnOf "checked_cell" "checked_cell" (zam (top 19)) (zae (top 19)) (zaa (top 19)) .none kV133 dc133 pm133 an133 cd133 ct133), sl133⟩) (e133 : PySem.W.codeIn K cd133 "checked_cell" = true) (k133 : PySem.W.keepIn K (.ref f133) = true)
    (a134 : PySem.W.nsIn K mainGlobals "cells_by_cover" = some (some (.ref f134))) (l134 : K.lookup f134 = some ⟨oc134, od134, .func (PySem.W.fnOf "cells_by_cover" "cells_by_cover" (zam (top 39)) (zae (top 39)) (zaa (top 39)) .none kV134 dc134 pm134 an134 cd134 ct134), sl134⟩) (e134 : PySem.W.codeIn K cd134 "cells_by_cover" = true) (k134 : PySem.W.keepIn K (.ref f134) = true)
    (y0 : PySem.W.nsIn K mainGlobals "LeapError" = some (some (.ref C0)))
    (y1 : PySem.W.nsIn K mainGlobals "BadFloor" = some (some (.ref C1)))
    (y2 : PySem.W.nsIn K mainGlobals "BadLeap" = some (some (.ref C2)))
    (y3 : PySem.W.nsIn K mainGlobals "NoCell" = some (some (.ref C3)))
    (y4 : PySem.W.nsIn K mainGlobals "BadNumber" = some (some (.ref C4)))
    (y5 : PySem.W.nsIn K mainGlobals "TooBig" = some (some (.ref C5)))
    (xq1 : PySem.W.excIn K C1 [.type "ValueError", .type "Exception", .type "BaseException", .type "object"] "ValueError.__new__" = true) (xt1 : PySem.W.exmOne K (.ref C1) (.ref C0) = some true) (xv1 : PySem.W.kitOne K (.ref C1) (.type "ValueError") = some true)
    (xq2 : PySem.W.excIn K C2 [.type "ValueError", .type "Exception", .type "BaseException", .type "object"] "ValueError.__new__" = true) (xt2 : PySem.W.exmOne K (.ref C2) (.ref C0) = some true) (xv2 : PySem.W.kitOne K (.ref C2) (.type "ValueError") = some true)
    (xq3 : PySem.W.excIn K C3 [.type "ValueError", .type "Exception", .type "BaseException", .type "object"] "ValueError.__new__" = true) (xt3 : PySem.W.exmOne K (.ref C3) (.ref C0) = some true) (xv3 : PySem.W.kitOne K (.ref C3) (.type "ValueError") = some true)
    (xq4 : PySem.W.excIn K C4 [.type "ValueError", .type "Exception", .type "BaseException", .type "object"] "ValueError.__new__" = true) (xt4 : PySem.W.exmOne K (.ref C4) (.ref C0) = some true) (xv4 : PySem.W.kitOne K (.ref C4) (.type "ValueError") = some true)
    (xq5 : PySem.W.excIn K C5 [.type "ValueError", .type "Exception", .type "BaseException", .type "object"] "ValueError.__new__" = true) (xt5 : PySem.W.exmOne K (.ref C5) (.ref C0) = some true) (xv5 : PySem.W.kitOne K (.ref C5) (.type "ValueError") = some true)
    (z_range : PySem.W.nsIn K mainGlobals "range" = some none)
    (z_len : PySem.W.nsIn K mainGlobals "len" = some none)
    (z_tuple : PySem.W.nsIn K mainGlobals "tuple" = some none)
    (z_list : PySem.W.nsIn K mainGlobals "list" = some none)
    (z_all : PySem.W.nsIn K mainGlobals "all" = some none)
    (z_isinstance : PySem.W.nsIn K mainGlobals "isinstance" = some none)
    (z_int : PySem.W.nsIn K mainGlobals "int" = some none)
    (z_bool : PySem.W.nsIn K mainGlobals "bool" = some none)
    (z_ValueError : PySem.W.nsIn K mainGlobals "ValueError" = some none)
    (c0 : PySem.W.nsIn K mainGlobals "LAST_LINE" = some (some (.int 7 t0)))
    (c1 : PySem.W.nsIn K mainGlobals "MOST_CELLS" = some (some (.int 24 t1)))
    (c2 : PySem.W.nsIn K mainGlobals "LONGEST_LEAP" = some (some (.int 4 t2)))
    (c3 : PySem.W.nsIn K mainGlobals "MOST_TO_WALK" = some (some (.int 16 t3)))
    (c4 : PySem.W.nsIn K mainGlobals "MOST_TO_CUT" = some (some (.int 9 t4)))
    : ∃ F FD TK CL, Txt K mg F FD TK CL ∧ F 92 = f92 ∧ (∀ (s : Shared) (u : Value), BindsTo s (FD 92) ⟨[u], []⟩ [("_law_script", u)]) :=
  ⟨fun i => match i with
     | 1 => f1
     | 2 => f2
     | 3 => f3
     | 4 => f4
     | 5 => f5
     | 6 => f6
     | 13 => f13
     | 14 => f14
     | 15 => f15
     | 88 => f88
     | 92 => f92
     | 112 => f112
     | 115 => f115
     | 116 => f116
     | 117 => f117
     | 119 => f119
     | 120 => f120
     | 121 => f121
     | 122 => f122
     | 123 => f123
     | 124 => f124
     | 125 => f125
     | 126 => f126
     | 127 => f127
     | 128 => f128
     | 129 => f129
     | 130 => f130
     | 131 => f131
     | 132 => f132
     | 133 => f133
     | 134 => f134
     | 118 => f6
     | _ => f0,
   fun i => match i with
     | 1 => PySem.W.fnOf "is_couple" "is_couple" (zam (top 12)) (zae (top 12)) (zaa (top 12)) .none kV1 dc1 pm1 an1 cd1 ct1
     | 2 => PySem.W.fnOf "is_cell" "is_cell" (zam (top 13)) (zae (top 13)) (zaa (top 13)) .none kV2 dc2 pm2 an2 cd2 ct2
     | 3 => PySem.W.fnOf "is_leap" "is_leap" (zam (top 14)) (zae (top 14)) (zaa (top 14)) .none kV3 dc3 pm3 an3 cd3 ct3
     | 4 => PySem.W.fnOf "is_rising" "is_rising" (zam (top 15)) (zae (top 15)) (zaa (top 15)) .none kV4 dc4 pm4 an4 cd4 ct4
     | 5 => PySem.W.fnOf "is_floor" "is_floor" (zam (top 16)) (zae (top 16)) (zaa (top 16)) .none kV5 dc5 pm5 an5 cd5 ct5
     | 6 => PySem.W.fnOf "checked" "checked" (zam (top 17)) (zae (top 17)) (zaa (top 17)) .none kV6 dc6 pm6 an6 cd6 ct6
     | 13 => PySem.W.fnOf "_law_cell" "_law_cell" (zam (top 65)) (zae (top 65)) (zaa (top 65)) .none kV13 dc13 pm13 an13 cd13 ct13
     | 14 => PySem.W.fnOf "_law_mix" "_law_mix" (zam (top 66)) (zae (top 66)) (zaa (top 66)) .none kV14 dc14 pm14 an14 cd14 ct14
     | 15 => PySem.W.fnOf "_law_floor" "_law_floor" (zam (top 67)) (zae (top 67)) (zaa (top 67)) .none kV15 dc15 pm15 an15 cd15 ct15
     | 88 => PySem.W.fnOf "_law_spoilt" "_law_spoilt" (zam (top 68)) (zae (top 68)) (zaa (top 68)) .none kV88 dc88 pm88 an88 cd88 ct88
     | 92 => PySem.W.fnOf "law" "law" (zam (top 72)) (zae (top 72)) (zaa (top 72)) .none kV92 dc92 pm92 an92 cd92 ct92
     | 112 => PySem.W.fnOf "checked_leap" "checked_leap" (zam (top 18)) (zae (top 18)) (zaa (top 18)) .none kV112 dc112 pm112 an112 cd112 ct112
     | 115 => PySem.W.fnOf "walk" "walk" (zam (top 56)) (zae (top 56)) (zaa (top 56)) .none kV115 dc115 pm115 an115 cd115 ct115
     | 116 => PySem.W.fnOf "ring_walk" "ring_walk" (zam (top 57)) (zae (top 57)) (zaa (top 57)) .none kV116 dc116 pm116 an116 cd116 ct116
     | 117 => PySem.W.fnOf "cut_of" "cut_of" (zam (top 60)) (zae (top 60)) (zaa (top 60)) .none kV117 dc117 pm117 an117 cd117 ct117
     | 119 => PySem.W.fnOf "refuse_big" "refuse_big" (zam (top 50)) (zae (top 50)) (zaa (top 50)) .none kV119 dc119 pm119 an119 cd119 ct119
     | 120 => PySem.W.fnOf "_law_told" "_law_told" (zam (top 71)) (zae (top 71)) (zaa (top 71)) .none kV120 dc120 pm120 an120 cd120 ct120
     | 121 => PySem.W.fnOf "_law_deed" "_law_deed" (zam (top 69)) (zae (top 69)) (zaa (top 69)) .none kV121 dc121 pm121 an121 cd121 ct121
     | 122 => PySem.W.fnOf "_law_more" "_law_more" (zam (top 70)) (zae (top 70)) (zaa (top 70)) .none kV122 dc122 pm122 an122 cd122 ct122
     | 123 => PySem.W.fnOf "near_cells" "near_cells" (zam (top 30)) (zae (top 30)) (zaa (top 30)) .none kV123 dc123 pm123 an123 cd123 ct123
     | 124 => PySem.W.fnOf "parts_of" "parts_of" (zam (top 31)) (zae (top 31)) (zaa (top 31)) .none kV124 dc124 pm124 an124 cd124 ct124
     | 125 => PySem.W.fnOf "hues_of" "hues_of" (zam (top 32)) (zae (top 32)) (zaa (top 32)) .none kV125 dc125 pm125 an125 cd125 ct125
     | 126 => PySem.W.fnOf "fewest" "fewest" (zam (top 63)) (zae (top 63)) (zaa (top 63)) .none kV126 dc126 pm126 an126 cd126 ct126
     | 127 => PySem.W.fnOf "a_way" "a_way" (zam (top 62)) (zae (top 62)) (zaa (top 62)) .none kV127 dc127 pm127 an127 cd127 ct127
     | 128 => PySem.W.fnOf "most_pairs" "most_pairs" (zam (top 40)) (zae (top 40)) (zaa (top 40)) .none kV128 dc128 pm128 an128 cd128 ct128
     | 129 => PySem.W.fnOf "cover" "cover" (zam (top 41)) (zae (top 41)) (zaa (top 41)) .none kV129 dc129 pm129 an129 cd129 ct129
     | 130 => PySem.W.fnOf "peaceful" "peaceful" (zam (top 42)) (zae (top 42)) (zaa (top 42)) .none kV130 dc130 pm130 an130 cd130 ct130
     | 131 => PySem.W.fnOf "paired" "paired" (zam (top 43)) (zae (top 43)) (zaa (top 43)) .none kV131 dc131 pm131 an131 cd131 ct131
     | 132 => PySem.W.fnOf "shown" "shown" (zam (top 46)) (zae (top 46)) (zaa (top 46)) .none kV132 dc132 pm132 an132 cd132 ct132
     | 133 => PySem.W.fnOf "checked_cell" "checked_cell" (zam (top 19)) (zae (top 19)) (zaa (top 19)) .none kV133 dc133 pm133 an133 cd133 ct133
     | 134 => PySem.W.fnOf "cells_by_cover" "cells_by_cover" (zam (top 39)) (zae (top 39)) (zaa (top 39)) .none kV134 dc134 pm134 an134 cd134 ct134
     | 118 => PySem.W.fnOf "checked" "checked" (zam (top 17)) (zae (top 17)) (zaa (top 17)) .none kV6 dc6 pm6 an6 cd6 ct6
     | _ => PySem.W.fnOf "is_whole" "is_whole" (zam (top 11)) (zae (top 11)) (zaa (top 11)) .none kV0 dc0 pm0 an0 cd0 ct0,
   fun i => [t0, t1, t2, t3, t4].getD i 0,
   fun i => match i with
     | 1 => C1
     | 2 => C2
     | 3 => C3
     | 4 => C4
     | 5 => C5
     | _ => C0,
   {
     y0 := PySem.W.mg_of X G y0
     y1 := PySem.W.mg_of X G y1
     q1 := xq1
     t1 := xt1
     v1 := xv1
     y2 := PySem.W.mg_of X G y2
     q2 := xq2
     t2 := xt2
     v2 := xv2
     y3 := PySem.W.mg_of X G y3
     q3 := xq3
     t3 := xt3
     v3 := xv3
     y4 := PySem.W.mg_of X G y4
     q4 := xq4
     t4 := xt4
     v4 := xv4
     y5 := PySem.W.mg_of X G y5
     q5 := xq5
     t5 := xt5
     v5 := xv5
     m0 := PySem.W.mg_of X G a0
     f0 := zau (st := top 11) l0 e0 k0
     b0 := (zau (st := top 11) l0 e0 k0).binds (ps := zaA 0) fun _ _ _ _ _ _ us hl => on3 (P := fun us => bindArgs _ ⟨us, []⟩ = pure ((zaA 0).zip us)) (fun _ _ _ => rfl) us hl
     m1 := PySem.W.mg_of X G a1
     f1 := zau (st := top 12) l1 e1 k1
     b1 := (zau (st := top 12) l1 e1 k1).binds (ps := zaA 1) fun _ _ _ _ _ _ us hl => on1 (P := fun us => bindArgs _ ⟨us, []⟩ = pure ((zaA 1).zip us)) (fun _ => rfl) us hl
     m2 := PySem.W.mg_of X G a2
     f2 := zau (st := top 13) l2 e2 k2
     b2 := (zau (st := top 13) l2 e2 k2).binds (ps := zaA 2) fun _ _ _ _ _ _ us hl => on1 (P := fun us => bindArgs _ ⟨us, []⟩ = pure ((zaA 2).zip us)) (fun _ => rfl) us hl
     m3 := PySem.W.mg_of X G a3
     f3 := zau (st := top 14) l3 e3 k3
     b3 := (zau (st := top 14) l3 e3 k3).binds (ps := zaA 3) fun _ _ _ _ _ _ us hl => on1 (P := fun us => bindArgs _ ⟨us, []⟩ = pure ((zaA 3).zip us)) (fun _ => rfl) us hl
     m4 := PySem.W.mg_of X G a4
     f4 := zau (st := top 15) l4 e4 k4
     b4 := (zau (st := top 15) l4 e4 k4).binds (ps := zaA 4) fun _ _ _ _ _ _ us hl => on1 (P := fun us => bindArgs _ ⟨us, []⟩ = pure ((zaA 4).zip us)) (fun _ => rfl) us hl
     m5 := PySem.W.mg_of X G a5
     f5 := zau (st := top 16) l5 e5 k5
     b5 := (zau (st := top 16) l5 e5 k5).binds (ps := zaA 5) fun _ _ _ _ _ _ us hl => on1 (P := fun us => bindArgs _ ⟨us, []⟩ = pure ((zaA 5).zip us)) (fun _ => rfl) us hl
     m6 := PySem.W.mg_of X G a6
     f6 := zau (st := top 17) l6 e6 k6
     b6 := (zau (st := top 17) l6 e6 k6).binds (ps := zaA 6) fun _ _ _ _ _ _ us hl => on1 (P := fun us => bindArgs _ ⟨us, []⟩ = pure ((zaA 6).zip us)) (fun _ => rfl) us hl
     m13 := PySem.W.mg_of X G a13
     f13 := zau (st := top 65) l13 e13 k13
     b13 := (zau (st := top 65) l13 e13 k13).binds (ps := zaA 13) fun _ _ _ _ _ _ us hl => on2 (P := fun us => bindArgs _ ⟨us, []⟩ = pure ((zaA 13).zip us)) (fun _ _ => rfl) us hl
     m14 := PySem.W.mg_of X G a14
     f14 := zau (st := top 66) l14 e14 k14
     b14 := (zau (st := top 66) l14 e14 k14).binds (ps := zaA 14) fun _ _ _ _ _ _ us hl => on3 (P := fun us => bindArgs _ ⟨us, []⟩ = pure ((zaA 14).zip us)) (fun _ _ _ => rfl) us hl
     m15 := PySem.W.mg_of X G a15
     f15 := zau (st := top 67) l15 e15 k15
     b15 := (zau (st := top 67) l15 e15 k15).binds (ps := zaA 15) fun _ _ _ _ _ _ us hl => on3 (P := fun us => bindArgs _ ⟨us, []⟩ = pure ((zaA 15).zip us)) (fun _ _ _ => rfl) us hl
     m88 := PySem.W.mg_of X G a88
     f88 := zau (st := top 68) l88 e88 k88
     b88 := (zau (st := top 68) l88 e88 k88).binds (ps := zaA 88) fun _ _ _ _ _ _ us hl => on2 (P := fun us => bindArgs _ ⟨us, []⟩ = pure ((zaA 88).zip us)) (fun _ _ => rfl) us hl
     m92 := PySem.W.mg_of X G a92
     f92 := zau (st := top 72) l92 e92 k92
     b92 := (zau (st := top 72) l92 e92 k92).binds (ps := zaA 92) fun _ _ _ _ _ _ us hl => on1 (P := fun us => bindArgs _ ⟨us, []⟩ = pure ((zaA 92).zip us)) (fun _ => rfl) us hl
     m112 := PySem.W.mg_of X G a112
     f112 := zau (st := top 18) l112 e112 k112
     b112 := (zau (st := top 18) l112 e112 k112).binds (ps := zaA 112) fun _ _ _ _ _ _ us hl => on1 (P := fun us => bindArgs _ ⟨us, []⟩ = pure ((zaA 112).zip us)) (fun _ => rfl) us hl
     m115 := PySem.W.mg_of X G a115
     f115 := zau (st := top 56) l115 e115 k115
     b115 := (zau (st := top 56) l115 e115 k115).binds (ps := zaA 115) fun _ _ _ _ _ _ us hl => on2 (P := fun us => bindArgs _ ⟨us, []⟩ = pure ((zaA 115).zip us)) (fun _ _ => rfl) us hl
     m116 := PySem.W.mg_of X G a116
     f116 := zau (st := top 57) l116 e116 k116
     b116 := (zau (st := top 57) l116 e116 k116).binds (ps := zaA 116) fun _ _ _ _ _ _ us hl => on2 (P := fun us => bindArgs _ ⟨us, []⟩ = pure ((zaA 116).zip us)) (fun _ _ => rfl) us hl
     m117 := PySem.W.mg_of X G a117
     f117 := zau (st := top 60) l117 e117 k117
     b117 := (zau (st := top 60) l117 e117 k117).binds (ps := zaA 117) fun _ _ _ _ _ _ us hl => on3 (P := fun us => bindArgs _ ⟨us, []⟩ = pure ((zaA 117).zip us)) (fun _ _ _ => rfl) us hl
     m119 := PySem.W.mg_of X G a119
     f119 := zau (st := top 50) l119 e119 k119
     b119 := (zau (st := top 50) l119 e119 k119).binds (ps := zaA 119) fun _ _ _ _ _ _ us hl => on2 (P := fun us => bindArgs _ ⟨us, []⟩ = pure ((zaA 119).zip us)) (fun _ _ => rfl) us hl
     m120 := PySem.W.mg_of X G a120
     f120 := zau (st := top 71) l120 e120 k120
     b120 := (zau (st := top 71) l120 e120 k120).binds (ps := zaA 120) fun _ _ _ _ _ _ us hl => on2 (P := fun us => bindArgs _ ⟨us, []⟩ = pure ((zaA 120).zip us)) (fun _ _ => rfl) us hl
     m121 := PySem.W.mg_of X G a121
     f121 := zau (st := top 69) l121 e121 k121
     b121 := (zau (st := top 69) l121 e121 k121).binds (ps := zaA 121) fun _ _ _ _ _ _ us hl => on2 (P := fun us => bindArgs _ ⟨us, []⟩ = pure ((zaA 121).zip us)) (fun _ _ => rfl) us hl
     m122 := PySem.W.mg_of X G a122
     f122 := zau (st := top 70) l122 e122 k122
     b122 := (zau (st := top 70) l122 e122 k122).binds (ps := zaA 122) fun _ _ _ _ _ _ us hl => on2 (P := fun us => bindArgs _ ⟨us, []⟩ = pure ((zaA 122).zip us)) (fun _ _ => rfl) us hl
     m123 := PySem.W.mg_of X G a123
     f123 := zau (st := top 30) l123 e123 k123
     b123 := (zau (st := top 30) l123 e123 k123).binds (ps := zaA 123) fun _ _ _ _ _ _ us hl => on3 (P := fun us => bindArgs _ ⟨us, []⟩ = pure ((zaA 123).zip us)) (fun _ _ _ => rfl) us hl
     m124 := PySem.W.mg_of X G a124
     f124 := zau (st := top 31) l124 e124 k124
     b124 := (zau (st := top 31) l124 e124 k124).binds (ps := zaA 124) fun _ _ _ _ _ _ us hl => on2 (P := fun us => bindArgs _ ⟨us, []⟩ = pure ((zaA 124).zip us)) (fun _ _ => rfl) us hl
     m125 := PySem.W.mg_of X G a125
     f125 := zau (st := top 32) l125 e125 k125
     b125 := (zau (st := top 32) l125 e125 k125).binds (ps := zaA 125) fun _ _ _ _ _ _ us hl => on2 (P := fun us => bindArgs _ ⟨us, []⟩ = pure ((zaA 125).zip us)) (fun _ _ => rfl) us hl
     m126 := PySem.W.mg_of X G a126
     f126 := zau (st := top 63) l126 e126 k126
     b126 := (zau (st := top 63) l126 e126 k126).binds (ps := zaA 126) fun _ _ _ _ _ _ us hl => on4 (P := fun us => bindArgs _ ⟨us, []⟩ = pure ((zaA 126).zip us)) (fun _ _ _ _ => rfl) us hl
     m127 := PySem.W.mg_of X G a127
     f127 := zau (st := top 62) l127 e127 k127
     b127 := (zau (st := top 62) l127 e127 k127).binds (ps := zaA 127) fun _ _ _ _ _ _ us hl => on4 (P := fun us => bindArgs _ ⟨us, []⟩ = pure ((zaA 127).zip us)) (fun _ _ _ _ => rfl) us hl
     m128 := PySem.W.mg_of X G a128
     f128 := zau (st := top 40) l128 e128 k128
     b128 := (zau (st := top 40) l128 e128 k128).binds (ps := zaA 128) fun _ _ _ _ _ _ us hl => on2 (P := fun us => bindArgs _ ⟨us, []⟩ = pure ((zaA 128).zip us)) (fun _ _ => rfl) us hl
     m129 := PySem.W.mg_of X G a129
     f129 := zau (st := top 41) l129 e129 k129
     b129 := (zau (st := top 41) l129 e129 k129).binds (ps := zaA 129) fun _ _ _ _ _ _ us hl => on2 (P := fun us => bindArgs _ ⟨us, []⟩ = pure ((zaA 129).zip us)) (fun _ _ => rfl) us hl
     m130 := PySem.W.mg_of X G a130
     f130 := zau (st := top 42) l130 e130 k130
     b130 := (zau (st := top 42) l130 e130 k130).binds (ps := zaA 130) fun _ _ _ _ _ _ us hl => on2 (P := fun us => bindArgs _ ⟨us, []⟩ = pure ((zaA 130).zip us)) (fun _ _ => rfl) us hl
     m131 := PySem.W.mg_of X G a131
     f131 := zau (st := top 43) l131 e131 k131
     b131 := (zau (st := top 43) l131 e131 k131).binds (ps := zaA 131) fun _ _ _ _ _ _ us hl => on2 (P := fun us => bindArgs _ ⟨us, []⟩ = pure ((zaA 131).zip us)) (fun _ _ => rfl) us hl
     m132 := PySem.W.mg_of X G a132
     f132 := zau (st := top 46) l132 e132 k132
     b132 := (zau (st := top 46) l132 e132 k132).binds (ps := zaA 132) fun _ _ _ _ _ _ us hl => on1 (P := fun us => bindArgs _ ⟨us, []⟩ = pure ((zaA 132).zip us)) (fun _ => rfl) us hl
     m133 := PySem.W.mg_of X G a133
     f133 := zau (st := top 19) l133 e133 k133
     b133 := (zau (st := top 19) l133 e133 k133).binds (ps := zaA 133) fun _ _ _ _ _ _ us hl => on2 (P := fun us => bindArgs _ ⟨us, []⟩ = pure ((zaA 133).zip us)) (fun _ _ => rfl) us hl
     m134 := PySem.W.mg_of X G a134
     f134 := zau (st := top 39) l134 e134 k134
     b134 := (zau (st := top 39) l134 e134 k134).binds (ps := zaA 134) fun _ _ _ _ _ _ us hl => on3 (P := fun us => bindArgs _ ⟨us, []⟩ = pure ((zaA 134).zip us)) (fun _ _ _ => rfl) us hl
     m118 := PySem.W.mg_of X G a6
     f118 := zau (st := top 17) l6 e6 k6
     b118 := (zau (st := top 17) l6 e6 k6).binds (ps := zaA 118) fun _ _ _ _ _ _ us hl => on1 (P := fun us => bindArgs _ ⟨us, []⟩ = pure ((zaA 118).zip us)) (fun _ => rfl) us hl
     z_range := PySem.W.mg_none_of X G z_range
     z_len := PySem.W.mg_none_of X G z_len
     z_tuple := PySem.W.mg_none_of X G z_tuple
     z_list := PySem.W.mg_none_of X G z_list
     z_all := PySem.W.mg_none_of X G z_all
     z_isinstance := PySem.W.mg_none_of X G z_isinstance
     z_int := PySem.W.mg_none_of X G z_int
     z_bool := PySem.W.mg_none_of X G z_bool
     z_ValueError := PySem.W.mg_none_of X G z_ValueError
     c0 := PySem.W.mg_of X G c0
     c1 := PySem.W.mg_of X G c1
     c2 := PySem.W.mg_of X G c2
     c3 := PySem.W.mg_of X G c3
     c4 := PySem.W.mg_of X G c4
   }, rfl, fun s u => .of_eq rfl⟩
end
end LK
namespace LK
open PySem PySem.W L2
noncomputable def en (P : Params) (x : Str) (t : Nat) (v : Value) : DictEntry := ⟨PyData.keyHash P x, .str x t, v⟩
noncomputable def fo (i : Nat) (x m : Str) (t c : Nat) : Obj := ⟨.type "function", none, .func (fnOf x x (zam (top i)) (zae (top i)) (zaa (top i)) .none .none .none (.str m t) none (.ref c) .none), #[]⟩
noncomputable def co (x : Str) (t l a r h : Nat) : Obj := ⟨.type "code", none, .fields #[.str x t, .str x (t + 1), .str "/claim/cut.py" (t + 2), .int l 0, .int a 0, .int 0 0, .int 0 0, .int 3 0, .ref r, .bool true, .int 181 0, .ref (r + 1), .none, .ref (r + 2), .ref (r + 3), .ref (r + 4), .int h 0, .int l 0, .str "/claim/cut.py" (h + 1)], #[]⟩
noncomputable def cn (x : Str) (t l a r h : Nat) : Obj := ⟨.type "code", none, .fields #[.str x t, .str x (t + 1), .str "/claim/cut.py" (t + 2), .int l 0, .int a 0, .int 0 0, .int 0 0, .int 3 0, .ref r, .bool true, .int 181 0, .ref (r + 1), .none, .none, .none, .ref (r + 2), .int h 0, .int l 0, .str "/claim/cut.py" (h + 1)], #[]⟩
noncomputable def HK (P : Params) : Frag := [(3, .mk (.type "dict") none (.dict #[en P "__name__" 165 (.str "law_leaperwalk_k01_floors" 693), en P "__doc__" 166 .none, en P "__package__" 167 .none, en P "__loader__" 168 (.builtin "__main__.__loader__#opaque"), en P "__spec__" 169 .none, en P "__annotations__" 170 (.ref 6), en P "__builtins__" 171 (.ref 4), en P "__file__" 173 (.str "/claim/cut.py" 172), en P "__cached__" 174 .none, en P "LeapError" 206 (.ref 24), en P "BadFloor" 222 (.ref 37), en P "BadLeap" 238 (.ref 49), en P "NoCell" 254 (.ref 61), en P "BadNumber" 270 (.ref 73), en P "TooBig" 286 (.ref 85), en P "LAST_LINE" 290 (.int 7 289), en P "MOST_CELLS" 292 (.int 24 291), en P "LONGEST_LEAP" 294 (.int 4 293), en P "is_whole" 303 (.ref 94), en P "is_couple" 310 (.ref 101), en P "is_cell" 317 (.ref 108), en P "is_leap" 324 (.ref 115), en P "is_rising" 330 (.ref 120), en P "is_floor" 336 (.ref 125), en P "checked" 343 (.ref 132), en P "checked_leap" 350 (.ref 139), en P "checked_cell" 358 (.ref 146), en P "folded" 368 (.ref 153), en P "are_near" 377 (.ref 160), en P "cells_near" 383 (.ref 165), en P "leads_to" 397 (.ref 172), en P "parts_within" 409 (.ref 179), en P "greatest_divisor" 415 (.ref 184), en P "has_odd_sum" 423 (.ref 191), en P "hue_of" 434 (.ref 198), en P "cells_of_hue" 440 (.ref 203), en P "near_cells" 449 (.ref 210), en P "parts_of" 457 (.ref 217), en P "hues_of" 465 (.ref 224), en P "finds_mate" 479 (.ref 231), en P "all_mates" 489 (.ref 238), en P "pairs_of" 495 (.ref 243), en P "crowd_and_around" 501 (.ref 248), en P "is_in_cover" 511 (.ref 255), en P "cells_by_cover" 517 (.ref 260), en P "most_pairs" 525 (.ref 267), en P "cover" 533 (.ref 274), en P "peaceful" 541 (.ref 281), en P "paired" 547 (.ref 286), en P "shown_line" 555 (.ref 291), en P "shown" 561 (.ref 296), en P "MOST_TO_WALK" 565 (.int 16 564), en P "MOST_TO_CUT" 567 (.int 9 566), en P "refuse_big" 575 (.ref 303), en P "bits_near" 581 (.ref 308), en P "one_cell_walks" 591 (.ref 315), en P "one_cell_longer" 603 (.ref 322), en P "layers_from" 612 (.ref 329), en P "walk_between" 627 (.ref 336), en P "walk" 633 (.ref 341), en P "ring_walk" 639 (.ref 346), en P "leaves_too_many" 645 (.ref 351), en P "one_cell_more" 656 (.ref 358), en P "cut_of" 667 (.ref 365), en P "a_way" 681 (.ref 372), en P "fewest" 692 (.ref 379), en P "_law_cell" 702 (.ref 386), en P "_law_mix" 711 (.ref 393), en P "_law_floor" 730 (.ref 400), en P "_law_spoilt" 742 (.ref 407), en P "_law_deed" 750 (.ref 414), en P "_law_more" 758 (.ref 421), en P "_law_told" 767 (.ref 428), en P "law" 773 (.ref 433)] 74) #[]),
  (17, .mk (.type "dict") none (.dict #[en P "__module__" 196 (.str "leaperwalk.errors" 187), en P "__qualname__" 198 (.str "LeapError" 197), en P "__firstlineno__" 200 (.int 2 199), en P "__static_attributes__" 201 (.ref 22)] 4) #[]),
  (23, .mk (.type "dict") none (.dict #[en P "__module__" 196 (.str "leaperwalk.errors" 187), en P "__firstlineno__" 200 (.int 2 199), en P "__static_attributes__" 201 (.ref 22), en P "__weakref__" 203 (.ref 25), en P "__doc__" 204 .none] 3) #[]),
  (24, .mk (.type "type") none (.cls (.mk "LeapError" [.type "ValueError"] [.ref 24, .type "ValueError", .type "Exception", .type "BaseException", .type "object"] 23 "LeapError" true [] [.ref 37, .ref 49, .ref 61, .ref 73, .ref 85] false none false)) #[some (.ref 15), none, some (.str "LeapError" 189), some (.str "LeapError" 197), some (.builtin "ValueError.__new__"), some (.bool true)]),
  (30, .mk (.type "dict") none (.dict #[en P "__module__" 214 (.str "leaperwalk.errors" 187), en P "__qualname__" 216 (.str "BadFloor" 215), en P "__firstlineno__" 218 (.int 4 217), en P "__static_attributes__" 219 (.ref 35)] 4) #[]),
  (36, .mk (.type "dict") none (.dict #[en P "__module__" 214 (.str "leaperwalk.errors" 187), en P "__firstlineno__" 218 (.int 4 217), en P "__static_attributes__" 219 (.ref 35), en P "__doc__" 220 .none] 2) #[]),
  (37, .mk (.type "type") none (.cls (.mk "BadFloor" [.ref 24] [.ref 37, .ref 24, .type "ValueError", .type "Exception", .type "BaseException", .type "object"] 36 "BadFloor" true [] [] false none false)) #[some (.ref 28), none, some (.str "BadFloor" 207), some (.str "BadFloor" 215), some (.builtin "ValueError.__new__"), some (.bool true)]),
  (42, .mk (.type "dict") none (.dict #[en P "__module__" 230 (.str "leaperwalk.errors" 187), en P "__qualname__" 232 (.str "BadLeap" 231), en P "__firstlineno__" 234 (.int 6 233), en P "__static_attributes__" 235 (.ref 47)] 4) #[]),
  (48, .mk (.type "dict") none (.dict #[en P "__module__" 230 (.str "leaperwalk.errors" 187), en P "__firstlineno__" 234 (.int 6 233), en P "__static_attributes__" 235 (.ref 47), en P "__doc__" 236 .none] 2) #[]),
  (49, .mk (.type "type") none (.cls (.mk "BadLeap" [.ref 24] [.ref 49, .ref 24, .type "ValueError", .type "Exception", .type "BaseException", .type "object"] 48 "BadLeap" true [] [] false none false)) #[some (.ref 40), none, some (.str "BadLeap" 223), some (.str "BadLeap" 231), some (.builtin "ValueError.__new__"), some (.bool true)]),
  (54, .mk (.type "dict") none (.dict #[en P "__module__" 246 (.str "leaperwalk.errors" 187), en P "__qualname__" 248 (.str "NoCell" 247), en P "__firstlineno__" 250 (.int 8 249), en P "__static_attributes__" 251 (.ref 59)] 4) #[]),
  (60, .mk (.type "dict") none (.dict #[en P "__module__" 246 (.str "leaperwalk.errors" 187), en P "__firstlineno__" 250 (.int 8 249), en P "__static_attributes__" 251 (.ref 59), en P "__doc__" 252 .none] 2) #[]),
  (61, .mk (.type "type") none (.cls (.mk "NoCell" [.ref 24] [.ref 61, .ref 24, .type "ValueError", .type "Exception", .type "BaseException", .type "object"] 60 "NoCell" true [] [] false none false)) #[some (.ref 52), none, some (.str "NoCell" 239), some (.str "NoCell" 247), some (.builtin "ValueError.__new__"), some (.bool true)]),
  (66, .mk (.type "dict") none (.dict #[en P "__module__" 262 (.str "leaperwalk.errors" 187), en P "__qualname__" 264 (.str "BadNumber" 263), en P "__firstlineno__" 266 (.int 10 265), en P "__static_attributes__" 267 (.ref 71)] 4) #[]),
  (72, .mk (.type "dict") none (.dict #[en P "__module__" 262 (.str "leaperwalk.errors" 187), en P "__firstlineno__" 266 (.int 10 265), en P "__static_attributes__" 267 (.ref 71), en P "__doc__" 268 .none] 2) #[]),
  (73, .mk (.type "type") none (.cls (.mk "BadNumber" [.ref 24] [.ref 73, .ref 24, .type "ValueError", .type "Exception", .type "BaseException", .type "object"] 72 "BadNumber" true [] [] false none false)) #[some (.ref 64), none, some (.str "BadNumber" 255), some (.str "BadNumber" 263), some (.builtin "ValueError.__new__"), some (.bool true)]),
  (78, .mk (.type "dict") none (.dict #[en P "__module__" 278 (.str "leaperwalk.errors" 187), en P "__qualname__" 280 (.str "TooBig" 279), en P "__firstlineno__" 282 (.int 12 281), en P "__static_attributes__" 283 (.ref 83)] 4) #[]),
  (84, .mk (.type "dict") none (.dict #[en P "__module__" 278 (.str "leaperwalk.errors" 187), en P "__firstlineno__" 282 (.int 12 281), en P "__static_attributes__" 283 (.ref 83), en P "__doc__" 284 .none] 2) #[]),
  (85, .mk (.type "type") none (.cls (.mk "TooBig" [.ref 24] [.ref 85, .ref 24, .type "ValueError", .type "Exception", .type "BaseException", .type "object"] 84 "TooBig" true [] [] false none false)) #[some (.ref 76), none, some (.str "TooBig" 271), some (.str "TooBig" 279), some (.builtin "ValueError.__new__"), some (.bool true)]),
  (93, co "is_whole" 295 18 3 88 301),
  (94, fo 11 "is_whole" "leaperwalk.floors" 287 93),
  (100, co "is_couple" 304 22 1 95 308),
  (101, fo 12 "is_couple" "leaperwalk.floors" 287 100),
  (107, co "is_cell" 311 24 1 102 315),
  (108, fo 13 "is_cell" "leaperwalk.floors" 287 107),
  (114, co "is_leap" 318 26 1 109 322),
  (115, fo 14 "is_leap" "leaperwalk.floors" 287 114),
  (119, cn "is_rising" 325 28 1 116 328),
  (120, fo 15 "is_rising" "leaperwalk.floors" 287 119),
  (124, cn "is_floor" 331 30 1 121 334),
  (125, fo 16 "is_floor" "leaperwalk.floors" 287 124),
  (131, co "checked" 337 34 1 126 341),
  (132, fo 17 "checked" "leaperwalk.floors" 287 131),
  (138, co "checked_leap" 344 38 1 133 348),
  (139, fo 18 "checked_leap" "leaperwalk.floors" 287 138),
  (145, co "checked_cell" 351 42 2 140 356),
  (146, fo 19 "checked_cell" "leaperwalk.floors" 287 145),
  (209, co "near_cells" 441 88 3 204 447),
  (210, fo 30 "near_cells" "leaperwalk.leaps" 359 209),
  (216, co "parts_of" 450 93 2 211 455),
  (217, fo 31 "parts_of" "leaperwalk.leaps" 359 216),
  (223, co "hues_of" 458 97 2 218 463),
  (224, fo 32 "hues_of" "leaperwalk.leaps" 359 223),
  (259, cn "cells_by_cover" 512 136 3 256 515),
  (260, fo 39 "cells_by_cover" "leaperwalk.pairs" 466 259),
  (266, co "most_pairs" 518 141 2 261 523),
  (267, fo 40 "most_pairs" "leaperwalk.pairs" 466 266),
  (273, co "cover" 526 145 2 268 531),
  (274, fo 41 "cover" "leaperwalk.pairs" 466 273),
  (280, co "peaceful" 534 147 2 275 539),
  (281, fo 42 "peaceful" "leaperwalk.pairs" 466 280),
  (285, cn "paired" 542 149 2 282 545),
  (286, fo 43 "paired" "leaperwalk.pairs" 466 285),
  (295, cn "shown" 556 161 1 292 559),
  (296, fo 46 "shown" "leaperwalk.texts" 548 295),
  (302, co "refuse_big" 568 168 2 297 573),
  (303, fo 50 "refuse_big" "leaperwalk.walks" 562 302),
  (340, cn "walk" 628 204 2 337 631),
  (341, fo 56 "walk" "leaperwalk.walks" 562 340),
  (345, cn "ring_walk" 634 211 2 342 637),
  (346, fo 57 "ring_walk" "leaperwalk.walks" 562 345),
  (364, co "cut_of" 657 230 3 359 665),
  (365, fo 60 "cut_of" "leaperwalk.walks" 562 364),
  (371, co "a_way" 670 244 4 366 679),
  (372, fo 62 "a_way" "leaperwalk.ways" 668 371),
  (378, co "fewest" 682 256 4 373 690),
  (379, fo 63 "fewest" "leaperwalk.ways" 668 378),
  (385, co "_law_cell" 695 260 2 380 700),
  (386, fo 65 "_law_cell" "law_leaperwalk_k01_floors" 693 385),
  (392, co "_law_mix" 703 264 3 387 709),
  (393, fo 66 "_law_mix" "law_leaperwalk_k01_floors" 693 392),
  (399, co "_law_floor" 712 266 3 394 728),
  (400, fo 67 "_law_floor" "law_leaperwalk_k01_floors" 693 399),
  (406, co "_law_spoilt" 731 282 2 401 740),
  (407, fo 68 "_law_spoilt" "law_leaperwalk_k01_floors" 693 406),
  (413, co "_law_deed" 743 292 2 408 748),
  (414, fo 69 "_law_deed" "law_leaperwalk_k01_floors" 693 413),
  (420, co "_law_more" 751 308 2 415 756),
  (421, fo 70 "_law_more" "law_leaperwalk_k01_floors" 693 420),
  (427, co "_law_told" 759 320 2 422 765),
  (428, fo 71 "_law_told" "law_leaperwalk_k01_floors" 693 427),
  (432, cn "law" 768 329 1 429 771),
  (433, fo 72 "law" "law_leaperwalk_k01_floors" 693 432)]
noncomputable def HA : List Addr := [3, 17, 23, 24, 30, 36, 37, 42, 48, 49, 54, 60, 61, 66, 72, 73, 78, 84, 85, 93, 94, 100, 101, 107, 108, 114, 115, 119, 120, 124, 125, 131, 132, 138, 139, 145, 146, 209, 210, 216, 217, 223, 224, 259, 260, 266, 267, 273, 274, 280, 281, 285, 286, 295, 296, 302, 303, 340, 341, 345, 346, 364, 365, 371, 372, 378, 379, 385, 386, 392, 393, 399, 400, 406, 407, 413, 414, 420, 421, 427, 428, 432, 433]
noncomputable def HQ : Program := view PySem.Challenge.pw_leaperwalk_k01_floors [1, 2, 3, 4, 5, 6, 8, 9, 10, 11, 12, 13, 14, 15, 16, 17, 18, 19, 21, 22, 23, 24, 25, 26, 27, 28, 29, 30, 31, 32, 34, 35, 36, 37, 38, 39, 40, 41, 42, 43, 45, 46, 48, 49, 50, 51, 52, 53, 54, 55, 56, 57, 58, 59, 60, 62, 63, 65, 66, 67, 68, 69, 70, 71, 72]
theorem hka : ∀ P, HA = (HK P).map (·.1) := fun P => by kernel_rfl
noncomputable def HH : Hook := kHook HK HA hka
noncomputable def tu (a : Array Value) : Obj := ⟨.type "tuple", none, .seq a, #[]⟩
noncomputable def fi (c : Value) (a : Array Value) : Obj := ⟨c, none, .fields a, #[]⟩
noncomputable def di (a : Array DictEntry) (n : Nat) : Obj := ⟨.type "dict", none, .dict a n, #[]⟩
noncomputable def MH (P : Params) : Heap := ⟨#[boot_o_0 P,
  boot_o_1 P,
  boot_o_2 P,
  di #[en P "__name__" 165 (.str "leaperwalk.errors" 187), en P "__doc__" 166 .none, en P "__package__" 167 .none, en P "__loader__" 168 (.builtin "__main__.__loader__#opaque"), en P "__spec__" 169 .none, en P "__annotations__" 170 (.ref 6), en P "__builtins__" 171 (.ref 4), en P "__file__" 173 (.str "/claim/cut.py" 172), en P "__cached__" 174 .none, en P "LeapError" 206 (.ref 24), en P "BadFloor" 222 (.ref 37), en P "BadLeap" 238 (.ref 49), en P "NoCell" 254 (.ref 61), en P "BadNumber" 270 (.ref 73), en P "TooBig" 286 (.ref 85)] 15,
  boot_o_4 P,
  boot_o_5 P,
  boot_o_6 P,
  boot_o_7 P,
  boot_o_8 P,
  boot_o_9 P,
  boot_o_10 P,
  tu #[],
  fi .none #[.int 2 0, .int 0 0, .ref 20, .int 4 0, .int 0 0, .ref 33, .int 6 0, .int 0 0, .ref 45, .int 8 0, .int 0 0, .ref 57, .int 10 0, .int 0 0, .ref 69, .int 12 0, .int 0 0, .ref 81],
  fi (.type "code") #[.str "<module>" 182, .str "<module>" 183, .str "/claim/cut.py" 184, .int 1 0, .int 0 0, .int 0 0, .int 0 0, .int 0 0, .ref 11, .bool false, .int 181 0, .ref 12, .none, .none, .none, .none, .int 185 0, .int 1 0, .str "/claim/cut.py" 186],
  .mk (.type "frame") none .plain #[some (.ref 13), some (.ref 3), some (.ref 3), none, some (.str "__main__" 164), none, some (.ref 0)],
  tu #[.type "ValueError"],
  fi (.type "builtin_function_or_method") #[.builtin "type.__prepare__", .type "type"],
  di #[en P "__module__" 196 (.str "leaperwalk.errors" 187), en P "__qualname__" 198 (.str "LeapError" 197), en P "__firstlineno__" 200 (.int 2 199), en P "__static_attributes__" 201 (.ref 22)] 4,
  tu #[],
  fi .none #[],
  fi (.type "code") #[.str "LeapError" 191, .str "LeapError" 192, .str "/claim/cut.py" 193, .int 2 0, .int 0 0, .int 0 0, .int 0 0, .int 0 0, .ref 18, .bool false, .int 181 0, .ref 19, .none, .none, .none, .none, .int 194 0, .int 2 0, .str "/claim/cut.py" 195],
  .mk (.type "frame") none .plain #[some (.ref 20), some (.ref 3), some (.ref 17), none, some (.str "leaperwalk.errors" 187), none, some (.ref 0)],
  tu #[],
  di #[en P "__module__" 196 (.str "leaperwalk.errors" 187), en P "__firstlineno__" 200 (.int 2 199), en P "__static_attributes__" 201 (.ref 22), en P "__weakref__" 203 (.ref 25), en P "__doc__" 204 .none] 3,
  .mk (.type "type") none (.cls (.mk "LeapError" [.type "ValueError"] [.ref 24, .type "ValueError", .type "Exception", .type "BaseException", .type "object"] 23 "LeapError" true [] [.ref 37, .ref 49, .ref 61, .ref 73, .ref 85] false none false)) #[some (.ref 15), none, some (.str "LeapError" 189), some (.str "LeapError" 197), some (.builtin "ValueError.__new__"), some (.bool true)],
  fi (.type "getset_descriptor") #[.str "__weakref__" 202, .ref 24, .builtin "ExceptionGroup.__weakref__", .none],
  fi (.type "super") #[.ref 24, .ref 24, .ref 24],
  fi (.type "builtin_function_or_method") #[.builtin "object.__init_subclass__", .ref 24],
  tu #[.ref 24],
  fi (.type "builtin_function_or_method") #[.builtin "type.__prepare__", .type "type"],
  di #[en P "__module__" 214 (.str "leaperwalk.errors" 187), en P "__qualname__" 216 (.str "BadFloor" 215), en P "__firstlineno__" 218 (.int 4 217), en P "__static_attributes__" 219 (.ref 35)] 4,
  tu #[],
  fi .none #[],
  fi (.type "code") #[.str "BadFloor" 209, .str "BadFloor" 210, .str "/claim/cut.py" 211, .int 4 0, .int 0 0, .int 0 0, .int 0 0, .int 0 0, .ref 31, .bool false, .int 181 0, .ref 32, .none, .none, .none, .none, .int 212 0, .int 4 0, .str "/claim/cut.py" 213],
  .mk (.type "frame") none .plain #[some (.ref 33), some (.ref 3), some (.ref 30), none, some (.str "leaperwalk.errors" 187), none, some (.ref 0)],
  tu #[],
  di #[en P "__module__" 214 (.str "leaperwalk.errors" 187), en P "__firstlineno__" 218 (.int 4 217), en P "__static_attributes__" 219 (.ref 35), en P "__doc__" 220 .none] 2,
  .mk (.type "type") none (.cls (.mk "BadFloor" [.ref 24] [.ref 37, .ref 24, .type "ValueError", .type "Exception", .type "BaseException", .type "object"] 36 "BadFloor" true [] [] false none false)) #[some (.ref 28), none, some (.str "BadFloor" 207), some (.str "BadFloor" 215), some (.builtin "ValueError.__new__"), some (.bool true)],
  fi (.type "super") #[.ref 37, .ref 37, .ref 37],
  fi (.type "builtin_function_or_method") #[.builtin "object.__init_subclass__", .ref 37],
  tu #[.ref 24],
  fi (.type "builtin_function_or_method") #[.builtin "type.__prepare__", .type "type"],
  di #[en P "__module__" 230 (.str "leaperwalk.errors" 187), en P "__qualname__" 232 (.str "BadLeap" 231), en P "__firstlineno__" 234 (.int 6 233), en P "__static_attributes__" 235 (.ref 47)] 4,
  tu #[],
  fi .none #[],
  fi (.type "code") #[.str "BadLeap" 225, .str "BadLeap" 226, .str "/claim/cut.py" 227, .int 6 0, .int 0 0, .int 0 0, .int 0 0, .int 0 0, .ref 43, .bool false, .int 181 0, .ref 44, .none, .none, .none, .none, .int 228 0, .int 6 0, .str "/claim/cut.py" 229],
  .mk (.type "frame") none .plain #[some (.ref 45), some (.ref 3), some (.ref 42), none, some (.str "leaperwalk.errors" 187), none, some (.ref 0)],
  tu #[],
  di #[en P "__module__" 230 (.str "leaperwalk.errors" 187), en P "__firstlineno__" 234 (.int 6 233), en P "__static_attributes__" 235 (.ref 47), en P "__doc__" 236 .none] 2,
  .mk (.type "type") none (.cls (.mk "BadLeap" [.ref 24] [.ref 49, .ref 24, .type "ValueError", .type "Exception", .type "BaseException", .type "object"] 48 "BadLeap" true [] [] false none false)) #[some (.ref 40), none, some (.str "BadLeap" 223), some (.str "BadLeap" 231), some (.builtin "ValueError.__new__"), some (.bool true)],
  fi (.type "super") #[.ref 49, .ref 49, .ref 49],
  fi (.type "builtin_function_or_method") #[.builtin "object.__init_subclass__", .ref 49],
  tu #[.ref 24],
  fi (.type "builtin_function_or_method") #[.builtin "type.__prepare__", .type "type"],
  di #[en P "__module__" 246 (.str "leaperwalk.errors" 187), en P "__qualname__" 248 (.str "NoCell" 247), en P "__firstlineno__" 250 (.int 8 249), en P "__static_attributes__" 251 (.ref 59)] 4,
  tu #[],
  fi .none #[],
  fi (.type "code") #[.str "NoCell" 241, .str "NoCell" 242, .str "/claim/cut.py" 243, .int 8 0, .int 0 0, .int 0 0, .int 0 0, .int 0 0, .ref 55, .bool false, .int 181 0, .ref 56, .none, .none, .none, .none, .int 244 0, .int 8 0, .str "/claim/cut.py" 245],
  .mk (.type "frame") none .plain #[some (.ref 57), some (.ref 3), some (.ref 54), none, some (.str "leaperwalk.errors" 187), none, some (.ref 0)],
  tu #[],
  di #[en P "__module__" 246 (.str "leaperwalk.errors" 187), en P "__firstlineno__" 250 (.int 8 249), en P "__static_attributes__" 251 (.ref 59), en P "__doc__" 252 .none] 2,
  .mk (.type "type") none (.cls (.mk "NoCell" [.ref 24] [.ref 61, .ref 24, .type "ValueError", .type "Exception", .type "BaseException", .type "object"] 60 "NoCell" true [] [] false none false)) #[some (.ref 52), none, some (.str "NoCell" 239), some (.str "NoCell" 247), some (.builtin "ValueError.__new__"), some (.bool true)],
  fi (.type "super") #[.ref 61, .ref 61, .ref 61],
  fi (.type "builtin_function_or_method") #[.builtin "object.__init_subclass__", .ref 61],
  tu #[.ref 24],
  fi (.type "builtin_function_or_method") #[.builtin "type.__prepare__", .type "type"],
  di #[en P "__module__" 262 (.str "leaperwalk.errors" 187), en P "__qualname__" 264 (.str "BadNumber" 263), en P "__firstlineno__" 266 (.int 10 265), en P "__static_attributes__" 267 (.ref 71)] 4,
  tu #[],
  fi .none #[],
  fi (.type "code") #[.str "BadNumber" 257, .str "BadNumber" 258, .str "/claim/cut.py" 259, .int 10 0, .int 0 0, .int 0 0, .int 0 0, .int 0 0, .ref 67, .bool false, .int 181 0, .ref 68, .none, .none, .none, .none, .int 260 0, .int 10 0, .str "/claim/cut.py" 261],
  .mk (.type "frame") none .plain #[some (.ref 69), some (.ref 3), some (.ref 66), none, some (.str "leaperwalk.errors" 187), none, some (.ref 0)],
  tu #[],
  di #[en P "__module__" 262 (.str "leaperwalk.errors" 187), en P "__firstlineno__" 266 (.int 10 265), en P "__static_attributes__" 267 (.ref 71), en P "__doc__" 268 .none] 2,
  .mk (.type "type") none (.cls (.mk "BadNumber" [.ref 24] [.ref 73, .ref 24, .type "ValueError", .type "Exception", .type "BaseException", .type "object"] 72 "BadNumber" true [] [] false none false)) #[some (.ref 64), none, some (.str "BadNumber" 255), some (.str "BadNumber" 263), some (.builtin "ValueError.__new__"), some (.bool true)],
  fi (.type "super") #[.ref 73, .ref 73, .ref 73],
  fi (.type "builtin_function_or_method") #[.builtin "object.__init_subclass__", .ref 73],
  tu #[.ref 24],
  fi (.type "builtin_function_or_method") #[.builtin "type.__prepare__", .type "type"],
  di #[en P "__module__" 278 (.str "leaperwalk.errors" 187), en P "__qualname__" 280 (.str "TooBig" 279), en P "__firstlineno__" 282 (.int 12 281), en P "__static_attributes__" 283 (.ref 83)] 4,
  tu #[],
  fi .none #[],
  fi (.type "code") #[.str "TooBig" 273, .str "TooBig" 274, .str "/claim/cut.py" 275, .int 12 0, .int 0 0, .int 0 0, .int 0 0, .int 0 0, .ref 79, .bool false, .int 181 0, .ref 80, .none, .none, .none, .none, .int 276 0, .int 12 0, .str "/claim/cut.py" 277],
  .mk (.type "frame") none .plain #[some (.ref 81), some (.ref 3), some (.ref 78), none, some (.str "leaperwalk.errors" 187), none, some (.ref 0)],
  tu #[],
  di #[en P "__module__" 278 (.str "leaperwalk.errors" 187), en P "__firstlineno__" 282 (.int 12 281), en P "__static_attributes__" 283 (.ref 83), en P "__doc__" 284 .none] 2,
  .mk (.type "type") none (.cls (.mk "TooBig" [.ref 24] [.ref 85, .ref 24, .type "ValueError", .type "Exception", .type "BaseException", .type "object"] 84 "TooBig" true [] [] false none false)) #[some (.ref 76), none, some (.str "TooBig" 271), some (.str "TooBig" 279), some (.builtin "ValueError.__new__"), some (.bool true)],
  fi (.type "super") #[.ref 85, .ref 85, .ref 85],
  fi (.type "builtin_function_or_method") #[.builtin "object.__init_subclass__", .ref 85]], (boot_heap P).life⟩
noncomputable def ME : PySem.Env := { scope := PySem.Challenge.pw_leaperwalk_k01_floors.main.scope, locals := mainNs, globals := mainNs, cells := [], code := .ref 13, frame := some 14 }
noncomputable def MT : Thread := ⟨((execs ((behindTheImports PySem.Challenge.pw_leaperwalk_k01_floors).drop 7) ME).onRaise (leaving ME)).bind fun f => (Sem.pure (Fin.done f) : Sem Fin), .body (behindTheImports PySem.Challenge.pw_leaperwalk_k01_floors) ME, ⟨12, 0, 13, 8⟩, [topFrame ⟨0, 0, 0, 0⟩]⟩
set_option maxHeartbeats 0 in
theorem zwa : ∀ w os, topGo treeTable PySem.Challenge.pw_leaperwalk_k01_floors w 11 (some (.ref 6)) 1272 ⟨boot_heap w.params, Array.mk [], boot_drawn, boot_toks, os⟩ (topStub PySem.Challenge.pw_leaperwalk_k01_floors) = some (⟨MH w.params, #[], boot_drawn, 287, os⟩, MT) := by
  intro w os
  kernel_rfl
theorem zoj {p q : Program} {loose : List Str} {Xt : Shared → Bool} {α : Type} {Yf : Shared → α} {Ya : World → α} {m n M : Nat} {ann : Option Value} {H : Params → Heap} {k : Nat} {th : Thread}
    (e : opening p = plainProg p.main.scope.names) (hN : Nat.ble 600 (n + M) = true) (f : ∀ s, fenceModules? p s = some s)
    (z1 : ∀ P, (boot_heap P).isNs mainGlobals = true) (z2 : ∀ P, (boot_heap P).objs.size = m) (z3 : ∀ P, (boot_heap P).nsMap mainGlobals "__annotations__" = ann)
    (A : ∀ w os, topGo treeTable p w m ann n ⟨boot_heap w.params, Array.mk [], boot_drawn, boot_toks, os⟩ (topStub p) = some (⟨H w.params, #[], boot_drawn, k, os⟩, th))
    (B : ∀ w os, (topRun treeTable p w m ann M ⟨H w.params, #[], boot_drawn, k, os⟩ th).map (fun s =>
        ((staticsOk (importedModules p.main.body) (boot_heap w.params) s.heap && namesBound p s.heap && gensDone s && laidKept (boot_heap w.params) s.heap : Bool), (openSeen q loose (importedModules p.main.body) Xt true s).1)) = some (true, (openGood q loose).1))
    (B' : ∀ w os, (topRun treeTable p w m ann M ⟨H w.params, #[], boot_drawn, k, os⟩ th).map (fun s => ((openSeen q loose (importedModules p.main.body) Xt true s).2, Yf s)) = some ((openGood q loose).2, Ya w)) :
    LeftO p q loose Xt Yf Ya (n + M) := fun w => by
  obtain ⟨⟨h, gs, d, t, os⟩, e1, e2⟩ := jo2.mp (boot_open e hN f w)
  simp only [Prod.mk.injEq] at e2
  obtain ⟨rfl, rfl, rfl, rfl⟩ := e2
  obtain ⟨s, r1, r2⟩ := jo2.mp (B w os)
  simp only [Prod.mk.injEq] at r2
  obtain ⟨l1, l2⟩ := r2
  have r3 := B' w os
  rw [r1] at r3
  simp only [Option.map_some, Option.some.injEq, Prod.mk.injEq] at r3
  have r := go_top (A w os) r1
  have E : topFrom treeTable p w (n + M) ⟨boot_heap w.params, Array.mk [], boot_drawn, boot_toks, os⟩ = some s := by
    unfold topFrom
    simp only [z1, z2, z3, Bool.true_and]
    rw [r]
    show (match _ with | true => some s | false => none) = some s
    rw [l1]
  show ((fencedOpening treeTable p w (n + M)).bind (topFrom treeTable p w (n + M))).map _ = _
  rw [e1]
  show (topFrom treeTable p w (n + M) _).map _ = _
  rw [E, ← r3.2]
  exact congrArg (fun x => some (x, Yf s)) (Prod.ext l2 r3.1)
set_option maxHeartbeats 0 in
theorem zwb : ∀ w os, (topRun treeTable PySem.Challenge.pw_leaperwalk_k01_floors w 11 (some (.ref 6)) 1828 ⟨MH w.params, #[], boot_drawn, 287, os⟩ MT).map (fun s =>
    ((staticsOk (importedModules PySem.Challenge.pw_leaperwalk_k01_floors.main.body) (boot_heap w.params) s.heap && namesBound PySem.Challenge.pw_leaperwalk_k01_floors s.heap && gensDone s && laidKept (boot_heap w.params) s.heap : Bool), (openSeen HQ [] (importedModules PySem.Challenge.pw_leaperwalk_k01_floors.main.body) (fun s => xlAt HQ [] s && recOk (RowW.records (OpenRow.toRowW (OpenLaw.row PySem.Challenge.rw_leaperwalk_k01_floors))) s) true s).1)) = some (true, (openGood HQ []).1) := by
  intro w os
  kernel_rfl
set_option maxHeartbeats 0 in
theorem zwc : ∀ w os, (topRun treeTable PySem.Challenge.pw_leaperwalk_k01_floors w 11 (some (.ref 6)) 1828 ⟨MH w.params, #[], boot_drawn, 287, os⟩ MT).map (fun s =>
    ((openSeen HQ [] (importedModules PySem.Challenge.pw_leaperwalk_k01_floors.main.body) (fun s => xlAt HQ [] s && recOk (RowW.records (OpenRow.toRowW (OpenLaw.row PySem.Challenge.rw_leaperwalk_k01_floors))) s) true s).2, HH.obs s)) = some ((openGood HQ []).2, HH.val w) := by
  intro w os
  kernel_rfl
theorem zuB : LeftO PySem.Challenge.pw_leaperwalk_k01_floors HQ [] (fun s => xlAt HQ [] s && recOk (RowW.records (OpenRow.toRowW (OpenLaw.row PySem.Challenge.rw_leaperwalk_k01_floors))) s) HH.obs HH.val (1272 + 1828) :=
  zoj (by kernel_rfl) (by decide) (fun s => by kernel_rfl) (fun P => by kernel_rfl) (fun P => by kernel_rfl) (fun P => by kernel_rfl) zwa zwb zwc
end LK
open PySem PySem.W PyProof.Rows
set_option maxRecDepth 100000 in
set_option maxHeartbeats 0 in
theorem PySem.Challenge.cw_leaperwalk_k01_floors_holds : PySem.Challenge.rw_leaperwalk_k01_floors.Holds := by
  w_on; o_law
  refine PySem.W.holds_open (XP := XL LK.HQ []) LK.zuB (Hook.of LK.HH) (Hook.keeps LK.HH) (fun s e => xl_of s (Bool.and_eq_true_iff.mp e).1) XL.keeps (by rfl) (by rfl) (by rfl) (fun s e => recFacts_of (Bool.and_eq_true_iff.mp e).2) (by rfl) (by assumption) (by decide +kernel) ⟨rfl, rfl, rfl, rfl, rfl, by decide +kernel⟩ ?hw ?hc
  case hw => w_witness2
  refine L2.zk6 (K := LK.HK) (l := PySem.Challenge.rw_leaperwalk_k01_floors) (n := 63) (k := LK.depth) (x := "_law_script") (CX := L2.CX0) (sp := fun K => L2.LW.spA K (L2.LW.zah LK.U LK.zaO LK.depth) 92 []) rfl (by decide) rfl ⟨rfl, by decide, by decide⟩ (fun w h Y => Y) ?F ?S ?C
  case F =>
    intro w mg fa h KX G hmg
    have l0 : List.lookup 94 (LK.HK w.params) = some (LK.fo 11 "is_whole" "leaperwalk.floors" 287 93) := by kernel_rfl
    have l1 : List.lookup 101 (LK.HK w.params) = some (LK.fo 12 "is_couple" "leaperwalk.floors" 287 100) := by kernel_rfl
    have l2 : List.lookup 108 (LK.HK w.params) = some (LK.fo 13 "is_cell" "leaperwalk.floors" 287 107) := by kernel_rfl
    have l3 : List.lookup 115 (LK.HK w.params) = some (LK.fo 14 "is_leap" "leaperwalk.floors" 287 114) := by kernel_rfl
    have l4 : List.lookup 120 (LK.HK w.params) = some (LK.fo 15 "is_rising" "leaperwalk.floors" 287 119) := by kernel_rfl
    have l5 : List.lookup 125 (LK.HK w.params) = some (LK.fo 16 "is_floor" "leaperwalk.floors" 287 124) := by kernel_rfl
    have l6 : List.lookup 132 (LK.HK w.params) = some (LK.fo 17 "checked" "leaperwalk.floors" 287 131) := by kernel_rfl
    have l13 : List.lookup 386 (LK.HK w.params) = some (LK.fo 65 "_law_cell" "law_leaperwalk_k01_floors" 693 385) := by kernel_rfl
    have l14 : List.lookup 393 (LK.HK w.params) = some (LK.fo 66 "_law_mix" "law_leaperwalk_k01_floors" 693 392) := by kernel_rfl
    have l15 : List.lookup 400 (LK.HK w.params) = some (LK.fo 67 "_law_floor" "law_leaperwalk_k01_floors" 693 399) := by kernel_rfl
    have l88 : List.lookup 407 (LK.HK w.params) = some (LK.fo 68 "_law_spoilt" "law_leaperwalk_k01_floors" 693 406) := by kernel_rfl
    have l92 : List.lookup 433 (LK.HK w.params) = some (LK.fo 72 "law" "law_leaperwalk_k01_floors" 693 432) := by kernel_rfl
    have l112 : List.lookup 139 (LK.HK w.params) = some (LK.fo 18 "checked_leap" "leaperwalk.floors" 287 138) := by kernel_rfl
    have l115 : List.lookup 341 (LK.HK w.params) = some (LK.fo 56 "walk" "leaperwalk.walks" 562 340) := by kernel_rfl
    have l116 : List.lookup 346 (LK.HK w.params) = some (LK.fo 57 "ring_walk" "leaperwalk.walks" 562 345) := by kernel_rfl
    have l117 : List.lookup 365 (LK.HK w.params) = some (LK.fo 60 "cut_of" "leaperwalk.walks" 562 364) := by kernel_rfl
    have l119 : List.lookup 303 (LK.HK w.params) = some (LK.fo 50 "refuse_big" "leaperwalk.walks" 562 302) := by kernel_rfl
    have l120 : List.lookup 428 (LK.HK w.params) = some (LK.fo 71 "_law_told" "law_leaperwalk_k01_floors" 693 427) := by kernel_rfl
    have l121 : List.lookup 414 (LK.HK w.params) = some (LK.fo 69 "_law_deed" "law_leaperwalk_k01_floors" 693 413) := by kernel_rfl
    have l122 : List.lookup 421 (LK.HK w.params) = some (LK.fo 70 "_law_more" "law_leaperwalk_k01_floors" 693 420) := by kernel_rfl
    have l123 : List.lookup 210 (LK.HK w.params) = some (LK.fo 30 "near_cells" "leaperwalk.leaps" 359 209) := by kernel_rfl
    have l124 : List.lookup 217 (LK.HK w.params) = some (LK.fo 31 "parts_of" "leaperwalk.leaps" 359 216) := by kernel_rfl
    have l125 : List.lookup 224 (LK.HK w.params) = some (LK.fo 32 "hues_of" "leaperwalk.leaps" 359 223) := by kernel_rfl
    have l126 : List.lookup 379 (LK.HK w.params) = some (LK.fo 63 "fewest" "leaperwalk.ways" 668 378) := by kernel_rfl
    have l127 : List.lookup 372 (LK.HK w.params) = some (LK.fo 62 "a_way" "leaperwalk.ways" 668 371) := by kernel_rfl
    have l128 : List.lookup 267 (LK.HK w.params) = some (LK.fo 40 "most_pairs" "leaperwalk.pairs" 466 266) := by kernel_rfl
    have l129 : List.lookup 274 (LK.HK w.params) = some (LK.fo 41 "cover" "leaperwalk.pairs" 466 273) := by kernel_rfl
    have l130 : List.lookup 281 (LK.HK w.params) = some (LK.fo 42 "peaceful" "leaperwalk.pairs" 466 280) := by kernel_rfl
    have l131 : List.lookup 286 (LK.HK w.params) = some (LK.fo 43 "paired" "leaperwalk.pairs" 466 285) := by kernel_rfl
    have l132 : List.lookup 296 (LK.HK w.params) = some (LK.fo 46 "shown" "leaperwalk.texts" 548 295) := by kernel_rfl
    have l133 : List.lookup 146 (LK.HK w.params) = some (LK.fo 19 "checked_cell" "leaperwalk.floors" 287 145) := by kernel_rfl
    have l134 : List.lookup 260 (LK.HK w.params) = some (LK.fo 39 "cells_by_cover" "leaperwalk.pairs" 466 259) := by kernel_rfl
    obtain ⟨F, FD, TK, CL, T, e0, hb⟩ := LK.zq3 (t0 := 289) (t1 := 291) (t2 := 293) (t3 := 564) (t4 := 566) (C0 := 24) (C1 := 37) (C2 := 49) (C3 := 61) (C4 := 73) (C5 := 85) KX G (by kernel_rfl) l0 (by kernel_rfl) (by kernel_rfl) (by kernel_rfl) l1 (by kernel_rfl) (by kernel_rfl) (by kernel_rfl) l2 (by kernel_rfl) (by kernel_rfl) (by kernel_rfl) l3 (by kernel_rfl) (by kernel_rfl) (by kernel_rfl) l4 (by kernel_rfl) (by kernel_rfl) (by kernel_rfl) l5 (by kernel_rfl) (by kernel_rfl) (by kernel_rfl) l6 (by kernel_rfl) (by kernel_rfl) (by kernel_rfl) l13 (by kernel_rfl) (by kernel_rfl) (by kernel_rfl) l14 (by kernel_rfl) (by kernel_rfl) (by kernel_rfl) l15 (by kernel_rfl) (by kernel_rfl) (by kernel_rfl) l88 (by kernel_rfl) (by kernel_rfl) (by kernel_rfl) l92 (by kernel_rfl) (by kernel_rfl) (by kernel_rfl) l112 (by kernel_rfl) (by kernel_rfl) (by kernel_rfl) l115 (by kernel_rfl) (by kernel_rfl) (by kernel_rfl) l116 (by kernel_rfl) (by kernel_rfl) (by kernel_rfl) l117 (by kernel_rfl) (by kernel_rfl) (by kernel_rfl) l119 (by kernel_rfl) (by kernel_rfl) (by kernel_rfl) l120 (by kernel_rfl) (by kernel_rfl) (by kernel_rfl) l121 (by kernel_rfl) (by kernel_rfl) (by kernel_rfl) l122 (by kernel_rfl) (by kernel_rfl) (by kernel_rfl) l123 (by kernel_rfl) (by kernel_rfl) (by kernel_rfl) l124 (by kernel_rfl) (by kernel_rfl) (by kernel_rfl) l125 (by kernel_rfl) (by kernel_rfl) (by kernel_rfl) l126 (by kernel_rfl) (by kernel_rfl) (by kernel_rfl) l127 (by kernel_rfl) (by kernel_rfl) (by kernel_rfl) l128 (by kernel_rfl) (by kernel_rfl) (by kernel_rfl) l129 (by kernel_rfl) (by kernel_rfl) (by kernel_rfl) l130 (by kernel_rfl) (by kernel_rfl) (by kernel_rfl) l131 (by kernel_rfl) (by kernel_rfl) (by kernel_rfl) l132 (by kernel_rfl) (by kernel_rfl) (by kernel_rfl) l133 (by kernel_rfl) (by kernel_rfl) (by kernel_rfl) l134 (by kernel_rfl) (by kernel_rfl) (by kernel_rfl) (by kernel_rfl) (by kernel_rfl) (by kernel_rfl) (by kernel_rfl) (by kernel_rfl) (by kernel_rfl) (by kernel_rfl) (by kernel_rfl) (by kernel_rfl) (by kernel_rfl) (by kernel_rfl) (by kernel_rfl) (by kernel_rfl) (by kernel_rfl) (by kernel_rfl) (by kernel_rfl) (by kernel_rfl) (by kernel_rfl) (by kernel_rfl) (by kernel_rfl) (by kernel_rfl) (by kernel_rfl) (by kernel_rfl) (by kernel_rfl) (by kernel_rfl) (by kernel_rfl) (by kernel_rfl) (by kernel_rfl) (by kernel_rfl) (by kernel_rfl) (by kernel_rfl) (by kernel_rfl) (by kernel_rfl) (by kernel_rfl)
    have e1 := hmg.symm.trans T.m92
    cases e1
    exact ⟨_, hb, fun base _ _ => LK.zq2 T LK.depth 92⟩
  case S => exact fun K H a ns hl _ hS => L2.LW.zpF (LK.zgA ns hl) hS
  case C => exact fun _ _ _ _ z => z
