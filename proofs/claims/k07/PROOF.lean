import PyProof.Rows.All
import Wide.All
import OpenK.AllK
import Wide.FinOn
import Lean
import PyProof.EqAt
import PyProof.EqKinds
import PyProof.TupleCall
import PyProof.SeqI3
import KE.KTupSum
import KE.LcSums
import KE.KDictSum
import KE.KTryMore
import PyProof.ExcBaseAll.ValueError
import OpenK.KOwn
import KE.RegKTryMore
import KE.RegKIsAll
import PyProof.ListMulRoad
import PyProof.Draws
import PyProof.EnumStmt
import PyProof.EnumMake
import PyProof.StrLawsTight
import PyProof.StrLawsChain
import PyProof.Rows.StrNews
import PyProof.Rows.StrJoin2
import PyProof.Rows.EnumRows
import PySem.Challenge.RW_leaperwalk_k07_whole_ways
set_option Elab.async false
set_option linter.all false
set_option maxRecDepth 100000
theorem jo1 {a b : Type} {x : Option a} {f : a → Option b} {y : b} : x.bind f = some y ↔ ∃ z, x = some z ∧ f z = some y := Option.bind_eq_some_iff
theorem jo2 {a b : Type} {x : Option a} {f : a → b} {y : b} : x.map f = some y ↔ ∃ z, x = some z ∧ f z = y := Option.map_eq_some_iff
set_option Elab.async false
set_option linter.all false
set_option maxRecDepth 100000
namespace L2
open PySem PySem.Spec PyProof.Rows
noncomputable abbrev Key := Sum Int Str
noncomputable def zld : Key → Value → Bool
  | .inl k, v => Value.isInt k v
  | .inr x, v => Value.isStrOf x v
noncomputable def keyH (w : World) : Key → Int
  | .inl k => hashInt k
  | .inr x => hashStr w x
theorem zba : ∀ {k : Key} {v : Value}, zld k v = true → (∃ i t, k = Sum.inl i ∧ v = Value.int i t) ∨ (∃ x t, k = Sum.inr x ∧ v = Value.str x t)
  | .inl i, v, h => by
    obtain ⟨t, e⟩ := Value.isInt_shape (k := i) (v := v) h
    exact .inl ⟨i, t, rfl, e⟩
  | .inr x, v, h => by
    obtain ⟨t, e⟩ := Value.isStrOf_shape (x := x) (v := v) h
    exact .inr ⟨x, t, rfl, e⟩
theorem zlR (i : Int) (t : Tok) : zld (.inl i) (.int i t) = true := by simp [zld, Value.isInt]
theorem zlS (x : Str) (t : Tok) : zld (.inr x) (.str x t) = true := by simp [zld, Value.isStrOf]
theorem zrM (a b : Int) : decide ((Sum.inl a : Key) = Sum.inl b) = (a == b) := by
  by_cases e : a = b
  · subst e; simp
  · have h : ¬ (Sum.inl a : Key) = Sum.inl b := fun q => e (Sum.inl.inj q)
    rw [decide_eq_false h]
    exact (beq_eq_false_iff_ne.mpr e).symm
theorem zrN (a b : Str) : decide ((Sum.inr a : Key) = Sum.inr b) = decide (a = b) := by
  by_cases e : a = b
  · subst e; simp
  · have h : ¬ (Sum.inr a : Key) = Sum.inr b := fun q => e (Sum.inr.inj q)
    rw [decide_eq_false h, decide_eq_false e]
theorem zrO (a : Int) (b : Str) : decide ((Sum.inl a : Key) = Sum.inr b) = false := decide_eq_false (fun q => nomatch q)
theorem zrP (a : Str) (b : Int) : decide ((Sum.inr a : Key) = Sum.inl b) = false := decide_eq_false (fun q => nomatch q)
noncomputable def zav (prog : Program) (w : World) : PySem.KeyKind prog w Key where
  is := zld
  hash := keyH w
  inj := fun v a b ha hb => by
    rcases zba ha with ⟨i, t, rfl, rfl⟩ | ⟨x, t, rfl, rfl⟩
    · rcases zba hb with ⟨j, u, rfl, e⟩ | ⟨y, u, rfl, e⟩
      · injection e with e1 _; rw [e1]
      · exact nomatch e
    · rcases zba hb with ⟨j, u, rfl, e⟩ | ⟨y, u, rfl, e⟩
      · exact nomatch e
      · injection e with e1 _; rw [e1]
  byValue := fun k v h => by
    rcases zba h with ⟨i, t, rfl, rfl⟩ | ⟨x, t, rfl, rfl⟩ <;> rfl
  pyHash := fun hv h => by
    rcases zba hv with ⟨i, t, rfl, rfl⟩ | ⟨x, t, rfl, rfl⟩
    · exact wpAny_pyHash_int h
    · exact wpAny_pyHash_str h
  eqBool := fun hu hv h => by
    rcases zba hu with ⟨i, t, rfl, rfl⟩ | ⟨x, t, rfl, rfl⟩
    · rcases zba hv with ⟨j, u, rfl, rfl⟩ | ⟨y, u, rfl, rfl⟩
      · rw [zrM] at h; exact wpAny_eqBool_int h
      · rw [zrO] at h; exact SeqAt.EqAt.int_str i t y u _ _ _ _ h
    · rcases zba hv with ⟨j, u, rfl, rfl⟩ | ⟨y, u, rfl, rfl⟩
      · rw [zrP] at h; exact SeqAt.EqAt.str_int x t j u _ _ _ _ h
      · rw [zrN] at h; exact wpAny_eqBool_str h
  «strs» := fun k x t v h => by
    rcases zba h with ⟨i, u, rfl, e⟩ | ⟨y, u, rfl, e⟩
    · exact nomatch e
    · injection e with e1 _
      subst e1
      cases v <;> rfl
theorem zjl (prog : Program) (w : World) (i : Int) (t : Tok) : (zav prog w).is (.inl i) (.int i t) = true := zlR i t
theorem zjm (prog : Program) (w : World) (x : Str) (t : Tok) : (zav prog w).is (.inr x) (.str x t) = true := zlS x t
end L2
namespace L2
open PySem PySem.Spec PyProof.Rows
inductive V where
  | non | bl (b : Bool) | int (i : Int) | str (x : Str) | byt (b : Array UInt8) | flt (b : UInt64) | ref (a : Addr) | ty (n : String)
  deriving DecidableEq
noncomputable def RelV : V → Value → Prop
  | .non, u => u = Value.none
  | .bl b, u => u = Value.bool b
  | .int i, u => ∃ t, u = Value.int i t
  | .str x, u => ∃ t, u = Value.str x t
  | .byt b, u => ∃ t, u = Value.bytes b t
  | .flt b, u => ∃ t, u = Value.float b t
  | .ref a, u => u = Value.ref a
  | .ty n, u => u = Value.type n
noncomputable abbrev Vals : List V → List Value → Prop := Paired RelV
theorem Vals.length {xs : List V} {us : List Value} (r : Vals xs us) : xs.length = us.length := Paired.length r
theorem Vals.get : ∀ {xs : List V} {us : List Value} {i : Nat} {x : V}, Vals xs us → xs[i]? = some x → ∃ u, us[i]? = some u ∧ RelV x u
  | _, _, _, _, .nil, e => by simp at e
  | _, _, 0, _, .cons r _, e => by simp at e; subst e; exact ⟨_, rfl, r⟩
  | _, _, i + 1, x, .cons _ t, e => by
    obtain ⟨u, h1, h2⟩ := Vals.get (i := i) (x := x) t (by simpa using e)
    exact ⟨u, by simpa using h1, h2⟩
theorem Vals.set {x : V} {u : Value} (r : RelV x u) : ∀ {xs : List V} {us : List Value} (i : Nat), Vals xs us → Vals (xs.set i x) (us.set i u)
  | _, _, _, .nil => .nil
  | _, _, 0, .cons _ t => .cons r t
  | _, _, i + 1, .cons q t => .cons q (Vals.set r i t)
theorem Vals.append : ∀ {xs ys : List V} {us ws : List Value}, Vals xs us → Vals ys ws → Vals (xs ++ ys) (us ++ ws)
  | _, _, _, _, .nil, s => s
  | _, _, _, _, .cons r t, s => .cons r (Vals.append t s)
theorem Vals.take : ∀ {xs : List V} {us : List Value} (n : Nat), Vals xs us → Vals (xs.take n) (us.take n)
  | _, _, 0, _ => .nil
  | _, _, _ + 1, .nil => .nil
  | _, _, n + 1, .cons r t => .cons r (Vals.take n t)
theorem Vals.drop : ∀ {xs : List V} {us : List Value} (n : Nat), Vals xs us → Vals (xs.drop n) (us.drop n)
  | _, _, 0, r => r
  | _, _, _ + 1, .nil => .nil
  | _, _, n + 1, .cons _ t => Vals.drop n t
noncomputable def RelO : Option V → Option Value → Prop
  | some v, some u => RelV v u
  | none, none => True
  | _, _ => False
noncomputable def KV {κ : Type} : List (κ × V) → List (κ × Value) → Prop := Paired fun (p : κ × V) (q : κ × Value) => p.1 = q.1 ∧ RelV p.2 q.2
noncomputable def kV : Key → V
  | .inl i => .int i
  | .inr x => .str x
inductive HO where
  | lst (xs : List V)
  | tup (xs : List V)
  | dK (kvs : List (Key × V)) | dT (kvs : List (List Key × V))
  | set (S : Int → Bool) (n : Nat)
  | ins (C dx : Addr) (fs : List (Str × V))
  | own (x : Addr)
  | xd (fs : List (Str × V))
  | met (f x : Addr)
  | rng (lo hi : Int)
  | frz (o : Obj) (u : HO)
  | tbl (ps : Array Value)
  | ext (φ : Heap → Prop)
noncomputable abbrev Hp := Addr → Option HO
noncomputable def upd (H : Hp) (a : Addr) (o : HO) : Hp := fun b => if b = a then some o else H b
theorem zbb {H : Hp} {a : Addr} {o : HO} : upd H a o a = some o := by unfold upd; rw [if_pos rfl]
theorem zaS {H : Hp} {a b : Addr} {o : HO} (h : b ≠ a) : upd H a o b = H b := by unfold upd; rw [if_neg h]
theorem zpZ {H : Hp} {a b : Addr} {o u : HO} (h : H a = some o) (h' : H b = some u) (d : o ≠ u) : a ≠ b := by
  intro e; subst e; rw [h] at h'; exact d (Option.some.inj h')
theorem zbu {H : Hp} {a b : Addr} {o : HO} (h : H a = some o) (h' : H b = none) : a ≠ b := by
  intro e; subst e; rw [h] at h'; cases h'
section
variable (P : Program) (w : World)
noncomputable def ObjOk (H : Hp) (h : Heap) (a : Addr) : HO → Prop
  | .lst xs => xs.length ≤ sizeLine ∧ ∃ (its : List Value) (n : Nat), Vals xs its ∧ h.get? a = some { cls := .type "list", data := .seq its.toArray n }
  | .tup xs => xs.length ≤ sizeLine ∧ ∃ its : List Value, Vals xs its ∧ IsTup h a its.toArray
  | .dK kvs => kvs.length ≤ sizeLine ∧ (a == sysModules) = false ∧ ∃ vs, KV kvs vs ∧ h.DictOf (zav P w) a vs
  | .dT kvs => kvs.length ≤ sizeLine ∧ (a == sysModules) = false ∧ ∃ xs : List (List Key × Addr × Value),
      Paired (fun (p : List Key × V) (q : List Key × Addr × Value) => p.1 = q.1 ∧ H q.2.1 = some (.tup (p.1.map kV)) ∧ RelV p.2 q.2.2) kvs xs ∧
      ∃ o es ep, h.get? a = some o ∧ o.ExactDict ∧ o.data = .dict es ep ∧ es.toList = xs.map (entryOfKey (tupleKind (zav P w))) ∧ (xs.map (·.1)).Nodup
  | .set S n => h.SetOf (intKind P w) a S n
  | .ins C dx fs => H dx = some (.own a) ∧ fs.length ≤ 1000 ∧ dx ≠ a ∧ h.get? a = some (PySem.W.instObj C dx) ∧
      ∃ mA, h.Ns1 dx mA ∧ (∀ f, RelO (fs.lookup f) (mA f)) ∧ PySem.Within mA (fs.map (·.1))
  | .own _ => ∃ o, h.get? a = some o
  | .xd fs => ∃ mA, h.Ns1 a mA ∧ ∀ f, RelO (fs.lookup f) (mA f)
  | .rng lo hi => ∃ t u v, h.get? a = some { cls := .type "range", data := .fields #[.int lo t, .int hi u, .int 1 v] }
  | .frz o u => h.get? a = some o ∧ ObjOk H h a u
  | .tbl ps => h.get? a = some { cls := .none, data := .fields ps }
  | .met f x => h.get? a = some (PySem.W.methodObj (.ref f) (.ref x))
  | .ext φ => φ h ∧ (∃ o, h.get? a = some o) ∧ ∀ h1 h2 : Heap, φ h1 → (∀ o, h1.get? a = some o → h2.get? a = some o) → φ h2
noncomputable def HOk (H : Hp) (h : Heap) : Prop := ∀ a o, H a = some o → ObjOk P w H h a o
end
section
variable {P : Program} {w : World} {H H' : Hp} {h h' : Heap} {a : Addr} {o : HO}
theorem ObjOk.lt (x : ObjOk P w H h a o) : a < h.objs.size := by
  cases o with
  | lst xs => obtain ⟨_, _, _, _, e⟩ := x; exact Heap.lt_size e
  | tup xs => obtain ⟨_, _, _, p⟩ := x; exact p.lt
  | dK kvs => obtain ⟨_, _, _, _, o, _, _, e, _⟩ := x; exact Heap.lt_size e
  | dT kvs => obtain ⟨_, _, _, _, o, _, _, e, _⟩ := x; exact Heap.lt_size e
  | set S n => obtain ⟨o, _, _, _, e, _⟩ := x; exact Heap.lt_size e
  | ins C dx fs => obtain ⟨_, _, _, e, _⟩ := x; exact Heap.lt_size e
  | own y => obtain ⟨_, e⟩ := x; exact Heap.lt_size e
  | xd fs => obtain ⟨_, ⟨_, _, _, e, _⟩, _⟩ := x; exact Heap.lt_size e
  | rng lo hi => obtain ⟨_, _, _, e⟩ := x; exact Heap.lt_size e
  | frz ob u => obtain ⟨e, _⟩ := x; exact Heap.lt_size e
  | tbl ps => exact Heap.lt_size (show h.get? a = some _ from x)
  | met f y => exact Heap.lt_size (show h.get? a = some _ from x)
  | ext φ => obtain ⟨_, ⟨_, e⟩, _⟩ := x; exact Heap.lt_size e
theorem Paired.mapP {α β : Type} {F G : α → β → Prop} : ∀ {l₁ : List α} {l₂ : List β}, Paired F l₁ l₂ → (∀ a b, F a b → G a b) → Paired G l₁ l₂
  | _, _, .nil, _ => .nil
  | _, _, .cons r t, f => .cons (f _ _ r) (Paired.mapP t f)
theorem Paired.imp' {α β : Type} {F G : α → β → Prop} (f : ∀ a b, F a b → G a b) {l₁ : List α} {l₂ : List β} (r : Paired F l₁ l₂) : Paired G l₁ l₂ := Paired.mapP r f
theorem ObjOk.stay (x : ObjOk P w H h a o) (k : ∀ b u, (b = a ∨ H b = some (.own a)) → h.get? b = some u → h'.get? b = some u)
    (ho : ∀ b, H b = some (.own a) → H' b = some (.own a)) (ht : ∀ b xs, H b = some (.tup xs) → H' b = some (.tup xs)) : ObjOk P w H' h' a o := by
  induction o with
  | lst xs => obtain ⟨z, its, n, r, e⟩ := x; exact ⟨z, its, n, r, k _ _ (.inl rfl) e⟩
  | tup xs => obtain ⟨z, its, r, ob, e, c⟩ := x; exact ⟨z, its, r, ob, k _ _ (.inl rfl) e, c⟩
  | dK kvs => obtain ⟨z, y, vs, r, ob, es, ep, e, c⟩ := x; exact ⟨z, y, vs, r, ob, es, ep, k _ _ (.inl rfl) e, c⟩
  | dT kvs =>
    obtain ⟨z, y, xs, r, ob, es, ep, e, c⟩ := x
    exact ⟨z, y, xs, Paired.mapP r fun p q z => ⟨z.1, ht _ _ z.2.1, z.2.2⟩, ob, es, ep, k _ _ (.inl rfl) e, c⟩
  | set S n => obtain ⟨ob, es, ep, t, e, c⟩ := x; exact ⟨ob, es, ep, t, k _ _ (.inl rfl) e, c⟩
  | ins C dx fs =>
    obtain ⟨d, z, ne, e, mA, ⟨od, es, ep, e2, c⟩, r⟩ := x
    exact ⟨ho _ d, z, ne, k _ _ (.inl rfl) e, mA, ⟨od, es, ep, k _ _ (.inr d) e2, c⟩, r⟩
  | own y => obtain ⟨ob, e⟩ := x; exact ⟨ob, k _ _ (.inl rfl) e⟩
  | xd fs => obtain ⟨mA, ⟨od, es, ep, e, c⟩, r⟩ := x; exact ⟨mA, ⟨od, es, ep, k _ _ (.inl rfl) e, c⟩, r⟩
  | rng lo hi => obtain ⟨t, u, v, e⟩ := x; exact ⟨t, u, v, k _ _ (.inl rfl) e⟩
  | frz ob u ih => obtain ⟨e, q⟩ := x; exact ⟨k _ _ (.inl rfl) e, ih q⟩
  | tbl ps =>
    have e : h.get? a = some { cls := .none, data := .fields ps } := x
    show h'.get? a = some { cls := .none, data := .fields ps }
    exact k a _ (.inl rfl) e
  | met f y =>
    have e : h.get? a = some (PySem.W.methodObj (.ref f) (.ref y)) := x
    show h'.get? a = some (PySem.W.methodObj (.ref f) (.ref y))
    exact k a _ (.inl rfl) e
  | ext φ => obtain ⟨p, ⟨o, e⟩, st⟩ := x; exact ⟨st _ _ p fun o q => k _ _ (.inl rfl) q, ⟨o, k _ _ (.inl rfl) e⟩, st⟩
theorem HOk.lt (x : HOk P w H h) (e : H a = some o) : a < h.objs.size := (x a o e).lt
theorem HOk.fresh (x : HOk P w H h) (e : h.objs.size ≤ a) : H a = none := by
  cases q : H a with
  | none => rfl
  | some u => exact absurd (Nat.lt_of_lt_of_le (x.lt q) e) (Nat.lt_irrefl _)
theorem HOk.kept (x : HOk P w H h) (k : ∀ b u, h.get? b = some u → h'.get? b = some u) : HOk P w H h' := fun a o e =>
  (x a o e).stay (fun b u _ q => k b u q) (fun _ q => q) fun _ _ q => q
theorem HOk.laid (x : HOk P w H h) (k : ∀ b u, h.get? b = some u → h'.get? b = some u) (hp : h.objs.size ≤ a) (new : ObjOk P w (upd H a o) h' a o) : HOk P w (upd H a o) h' := fun b u e => by
  have hn := x.fresh hp
  by_cases hb : b = a
  · subst hb; rw [zbb] at e; cases e; exact new
  · rw [zaS hb] at e
    exact (x b u e).stay (fun c v _ q => k c v q) (fun c q => by rw [zaS (zbu q hn)]; exact q) fun c xs q => by rw [zaS (zbu q hn)]; exact q
end
noncomputable def Rd (H : Hp) (a : Addr) (u : HO) : Prop := H a = some u ∨ ∃ o, H a = some (.frz o u)
theorem Rd.of {H : Hp} {a : Addr} {u : HO} (h : H a = some u) : Rd H a u := .inl h
theorem Rd.ok {P : Program} {w : World} {H : Hp} {h : Heap} {a : Addr} {u : HO} (r : Rd H a u) (x : HOk P w H h) : ObjOk P w H h a u := by
  rcases r with r | ⟨o, r⟩
  · exact x a u r
  · obtain ⟨_, q⟩ := x a _ r
    exact q
noncomputable def Mut : Option HO → Prop
  | some (.lst _) => True
  | some (.dK _) => True
  | some (.dT _) => True
  | some (.set _ _) => True
  | some (.ins _ _ _) => True
  | some (.ext _) => True
  | _ => False
section
variable {P : Program} {w : World} {H : Hp} {h h' : Heap} {x e : Addr} {o' : HO}
theorem HOk.write (ok : HOk P w H h) (mu : Mut (H x)) (he : e = x ∨ H e = some (.own x)) (k : ∀ b u, b ≠ e → h.get? b = some u → h'.get? b = some u) (heo : ∃ u, h'.get? e = some u)
    (new : ObjOk P w (upd H x o') h' x o') : HOk P w (upd H x o') h' := fun b u q => by
  have nown : ∀ c y, H c = some (.own y) → c ≠ x := fun c y r z => by subst z; rw [r] at mu; exact mu
  have ntup : ∀ c xs, H c = some (.tup xs) → c ≠ x := fun c xs r z => by subst z; rw [r] at mu; exact mu
  by_cases hb : b = x
  · subst hb; rw [zbb] at q; cases q; exact new
  · rw [zaS hb] at q
    by_cases hbe : b = e
    · have q' : H b = some (.own x) := by
        rcases he with z | z
        · exact absurd (hbe.trans z) hb
        · rw [hbe]; exact z
      rw [q] at q'; cases q'
      obtain ⟨v, hv⟩ := heo
      exact ⟨v, by rw [hbe]; exact hv⟩
    · refine (ok b u q).stay (fun c v hc r => k c v ?_ r) (fun c r => by rw [zaS (nown c b r)]; exact r) fun c xs r => by rw [zaS (ntup c xs r)]; exact r
      rcases hc with rfl | hc
      · exact hbe
      · rintro rfl
        rcases he with z | z
        · exact nown c b hc z
        · rw [hc] at z; cases z; exact hb rfl
end
structure Un (fs ex : List Addr) (H H' : Hp) (h h' : Heap) : Prop where
  keep : ∀ b o, h.get? b = some o → H b = none → b ∉ fs → b ∉ ex → h'.get? b = some o
  slot : ∀ b o, h.get? b = some o → H b = none → b ∈ fs → b ∉ ex → ∃ sl, h'.get? b = some { o with slots := sl }
  free : ∀ b o, h.get? b = some o → H b = none → b ∉ ex → H' b = none
  there : ∀ b o, h.get? b = some o → b ∉ ex → ∃ o', h'.get? b = some o'
  tups : ∀ b xs, H b = some (.tup xs) → H' b = some (.tup xs)
  frzs : ∀ b o u, H b = some (.frz o u) → H' b = some (.frz o u)
  tbls : ∀ b ps, H b = some (.tbl ps) → ∃ more, H' b = some (.tbl (ps ++ more))
section
variable {fs fs' ex ex' : List Addr} {H H1 H2 : Hp} {h h1 h2 h' : Heap} {a x e : Addr} {o : HO}
theorem Un.any (u : Un fs ex H H1 h h1) {b : Addr} {ob : Obj} (q : h.get? b = some ob) (n : H b = none) (hx : b ∉ ex) : ∃ sl, h1.get? b = some { ob with slots := sl } := by
  by_cases hb : b ∈ fs
  · exact u.slot b ob q n hb hx
  · exact ⟨ob.slots, u.keep b ob q n hb hx⟩
theorem Un.trans (a : Un fs ex H H1 h h1) (b : Un fs ex H1 H2 h1 h2) : Un fs ex H H2 h h2 where
  keep := fun c ob q n hc hx => b.keep c ob (a.keep c ob q n hc hx) (a.free c ob q n hx) hc hx
  slot := fun c ob q n hc hx => by
    obtain ⟨sl, e1⟩ := a.slot c ob q n hc hx
    obtain ⟨sl', e2⟩ := b.slot c _ e1 (a.free c ob q n hx) hc hx
    exact ⟨sl', e2⟩
  free := fun c ob q n hx => by
    obtain ⟨o', e1⟩ := a.there c ob q hx
    exact b.free c o' e1 (a.free c ob q n hx) hx
  there := fun c ob q hx => by
    obtain ⟨o', e1⟩ := a.there c ob q hx
    exact b.there c o' e1 hx
  tups := fun c xs q => b.tups c xs (a.tups c xs q)
  frzs := fun c ob xs q => b.frzs c ob xs (a.frzs c ob xs q)
  tbls := fun c ps q => by
    obtain ⟨m1, e1⟩ := a.tbls c ps q
    obtain ⟨m2, e2⟩ := b.tbls c _ e1
    exact ⟨m1 ++ m2, by rw [e2, Array.append_assoc]⟩
theorem Un.kept (k : ∀ b u, h.get? b = some u → h'.get? b = some u) : Un fs ex H H h h' :=
  ⟨fun b ob q _ _ _ => k b ob q, fun b ob q _ _ _ => ⟨ob.slots, k b ob q⟩, fun _ _ _ n _ => n, fun b ob q _ => ⟨ob, k b ob q⟩, fun _ _ q => q, fun _ _ _ q => q, fun _ ps q => ⟨#[], by rw [q]; simp⟩⟩
theorem Un.refl : Un fs ex H H h h := Un.kept fun _ _ q => q
theorem Un.laid (k : ∀ b u, h.get? b = some u → h'.get? b = some u) (hp : h.objs.size ≤ a) (hn : H a = none) : Un fs ex H (upd H a o) h h' where
  keep := fun b u q _ _ _ => k b u q
  slot := fun b u q _ _ _ => ⟨u.slots, k b u q⟩
  free := fun b u q n _ => by rw [zaS (Nat.ne_of_lt (Nat.lt_of_lt_of_le (Heap.lt_size q) hp))]; exact n
  there := fun b u q _ => ⟨u, k b u q⟩
  tups := fun b xs q => by rw [zaS (zbu q hn)]; exact q
  frzs := fun b u xs q => by rw [zaS (zbu q hn)]; exact q
  tbls := fun b ps q => ⟨#[], by rw [zaS (zbu q hn), q]; simp⟩
theorem Un.write (mu : Mut (H x)) (he : e = x ∨ H e = some (.own x)) (k : ∀ b u, b ≠ e → h.get? b = some u → h'.get? b = some u) (heo : ∃ u, h'.get? e = some u) : Un fs ex H (upd H x o) h h' := by
  have hx : ∀ b, H b = none → b ≠ x := fun b n z => by subst z; rw [n] at mu; exact mu
  have hb : ∀ b, H b = none → b ≠ e := fun b n z => by
    subst z
    rcases he with r | r
    · exact hx b n r
    · rw [n] at r; cases r
  have hm : ∀ b u, H b = some u → ¬ Mut (some u) → b ≠ x := fun b u q nm z => by subst z; rw [q] at mu; exact nm mu
  refine ⟨fun b u q n _ _ => k b u (hb b n) q, fun b u q n _ _ => ⟨u.slots, k b u (hb b n) q⟩, fun b u q n _ => by rw [zaS (hx b n)]; exact n, fun b u q _ => ?_,
    fun b xs q => by rw [zaS (hm b _ q fun z => z)]; exact q, fun b u xs q => by rw [zaS (hm b _ q fun z => z)]; exact q, fun b ps q => ⟨#[], by rw [zaS (hm b _ q fun z => z), q]; simp⟩⟩
  by_cases hbe : b = e
  · subst hbe; exact heo
  · exact ⟨u, k b u hbe q⟩
theorem Un.mono (u : Un fs ex H H1 h h1) (hs : ∀ b ∈ fs, b ∈ fs') (hx : ∀ b ∈ ex, b ∈ ex') : Un fs' ex' H H1 h h1 :=
  ⟨fun b ob q n hb he => u.keep b ob q n (fun z => hb (hs b z)) fun z => he (hx b z), fun _ _ q n _ he => u.any q n fun z => he (hx _ z), fun b ob q n he => u.free b ob q n fun z => he (hx b z), fun b ob q he => u.there b ob q fun z => he (hx b z), u.tups, u.frzs, u.tbls⟩
end
noncomputable def trk (h : Heap) (H : Hp) : List Addr := (List.range h.objs.size).filter fun a => (H a).isSome
noncomputable def hidT (h : Heap) (H : Hp) : Heap := PySem.W.hideAll h (trk h H)
theorem zlT (h : Heap) (H : Hp) : (hidT h H).objs.size = h.objs.size := PySem.W.hideAll_size _ _
theorem znV {h : Heap} {H : Hp} {b : Addr} {o : Obj} (e : h.get? b = some o) (n : H b = none) : (hidT h H).get? b = some o :=
  PySem.W.hideAll_get _ e fun hm => by
    have q : (H b).isSome = true := (List.mem_filter.mp hm).2
    rw [n] at q; simp at q
theorem zp0 {h : Heap} {H : Hp} {b : Addr} {o : Obj} (e : (hidT h H).get? b = some o) : h.get? b = some o ∧ H b = none := by
  have e' : h.get? b = some o := PySem.W.of_hideAll (trk h H) e
  refine ⟨e', ?_⟩
  cases q : H b with
  | none => rfl
  | some x =>
    have hm : b ∈ trk h H := List.mem_filter.mpr ⟨List.mem_range.mpr (Heap.lt_size e'), by simp [q]⟩
    have z : (hidT h H).get? b = none := PySem.W.hideAll_none (trk h H) hm
    rw [z] at e; cases e
noncomputable def zp1 (g h : Heap) (L : Addr) : List (Addr × Obj) := (List.range h.objs.size).filterMap fun a => if a = L ∨ (g.get? a).isSome = true then none else (h.get? a).map fun o => (a, o)
noncomputable def rest (g h : Heap) (L d : Addr) : List (Addr × Obj) := (zp1 g h L).filter fun p => decide (p.1 ≠ d)
end L2
namespace L2
open PySem PySem.Spec PyProof.Rows
structure Mod (K : PySem.W.Frag) (mg : Str → Option Value) (base : Heap) : Prop where
  kin : K.In base
  glob : base.Ns mainGlobals mg
  blt : ∃ mb, base.Ns builtinsNs mb ∧ ∀ x : Str, x ≠ "__name__" → mb x = bootBuiltins x
  nolimit : base.NoLimit
structure Cx where
  prog : Program
  w : World
  K : PySem.W.Frag
  mg : Str → Option Value
  base : Heap
  A : Around
  N : List Str
  s₀ : Shared
  H₀ : Hp
  env : Env
  outer : List Env
  stack : List Env
  ex : List Addr
  fn : Str → Bool
  calm : Bool
  pn : List (Addr × Obj)
  xe : Value → Shared → Prop
noncomputable def frs (l : List Env) : List Addr := l.filterMap (·.frame)
noncomputable abbrev Cx.fs (X : Cx) : List Addr := frs X.outer
noncomputable def Vis (sc : Scope) (x : Str) : Prop := sc.names.lookup x = some .local ∨ sc.names.lookup x = some .cell ∨ sc.names.lookup x = some .free
noncomputable def Loc (sc : Scope) (x : Str) : Prop := sc.names.lookup x = some .local ∨ sc.names.lookup x = some .cell
noncomputable def Look (env : Env) (h : Heap) (m : Str → Option Value) (x : Str) (u : Value) : Prop :=
  (env.kindOf x = some .local ∧ m x = some u) ∨ ((env.kindOf x = some .cell ∨ env.kindOf x = some .free) ∧ ∃ c, env.cells.lookup x = some c ∧ h.IsCell c (some u))
structure Cx.Ok (X : Cx) : Prop where
  mod : Mod X.K X.mg X.base
  kind : X.env.scope.kind = .function
  glob : X.env.globals = mainGlobals
  blt : X.env.builtins = builtinsNs
  above : X.s₀.heap.objs.size ≤ X.env.locals
  inj : ∀ x y c, X.env.cells.lookup x = some c → X.env.cells.lookup y = some c → x = y
  has : ∀ x, (X.env.kindOf x = some .cell ∨ X.env.kindOf x = some .free) → ∃ c, X.env.cells.lookup x = some c
  cab : ∀ x c, X.fn x = true → X.env.cells.lookup x = some c → X.s₀.heap.objs.size ≤ c
  hd : X.calm = true → X.A.handled = none
  frames : X.A.frames = some X.stack
  stk : X.stack = X.outer ∨ (X.stack = X.env :: X.outer ∧ X.env.frame = some X.env.locals)
  exf : ∀ b ∈ X.ex, b ≠ X.env.locals ∧ ∀ x c, X.env.cells.lookup x = some c → c ≠ b
  bs : ∀ b o, X.base.get? b = some o → X.s₀.heap.get? b = some o ∧ X.H₀ b = none
  bsz : X.base.objs.size ≤ X.s₀.heap.objs.size
  noex : ∀ b o, X.base.get? b = some o → b ∉ X.ex
  exfs : ∀ b ∈ X.ex, b ∉ X.fs
  funs : X.s₀.heap.FunFrames X.base X.outer
  frf : ∀ b ∈ X.fs, X.H₀ b = none
structure Inv (X : Cx) (pins : List (Addr × Obj)) (σ : List (Option V)) (H : Hp) (s : Shared) : Prop where
  ok : X.Ok
  os : s.os = X.s₀.os
  bare : AllBare s.gens
  base : Un X.fs X.ex X.H₀ H X.s₀.heap s.heap
  loc : ∃ m, s.heap.Ns X.env.locals m ∧ ∀ (i : Nat) (x : Str) (v : V), X.N[i]? = some x → σ[i]? = some (some v) → Vis X.env.scope x → ∃ u, RelV v u ∧ Look X.env s.heap m x u
  cell : ∀ x c, X.env.cells.lookup x = some c → ∃ v, s.heap.IsCell c v
  free : H X.env.locals = none
  freeC : ∀ x c, X.env.cells.lookup x = some c → H c = none
  pin : ∀ p ∈ X.pn ++ pins, s.heap.get? p.1 = some p.2 ∧ H p.1 = none ∧ p.1 ≠ X.env.locals ∧ p.1 ∉ X.fs ∧ ∀ v, p.2.data ≠ .cell v
  hok : HOk X.prog X.w H s.heap
  len : σ.length = X.N.length
section
variable {X : Cx} {pins : List (Addr × Obj)} {σ : List (Option V)} {H H' : Hp} {s : Shared} {h' : Heap}
theorem Cx.Ok.nofr (ok : X.Ok) {b : Addr} {o : Obj} (e : X.base.get? b = some o) : b ∉ X.fs := fun hb => by
  have := (ok.funs.mem hb).1
  rw [e] at this; cases this
theorem Inv.bs (I : Inv X pins σ H s) : ∀ b o, X.base.get? b = some o → s.heap.get? b = some o ∧ H b = none := fun b o e =>
  ⟨I.base.keep b o (I.ok.bs b o e).1 (I.ok.bs b o e).2 (I.ok.nofr e) (I.ok.noex b o e), I.base.free b o (I.ok.bs b o e).1 (I.ok.bs b o e).2 (I.ok.noex b o e)⟩
theorem Inv.bk (I : Inv X pins σ H s) : ∀ b o, X.base.get? b = some o → s.heap.get? b = some o := fun b o e => (I.bs b o e).1
theorem Inv.mod (I : Inv X pins σ H s) : Mod X.K X.mg X.base := I.ok.mod
theorem Inv.kIn (I : Inv X pins σ H s) : X.K.In s.heap := I.ok.mod.kin.keeps I.bk
theorem Inv.nolimit (I : Inv X pins σ H s) : s.heap.NoLimit := I.ok.mod.nolimit.keeps I.bk
theorem Inv.fr (I : Inv X pins σ H s) : ∃ m, Fr X.base X.env.locals s.heap m :=
  let ⟨m, hn, _⟩ := I.loc
  ⟨m, hn, I.bk, Nat.le_trans I.ok.bsz I.ok.above⟩
theorem Inv.lt (I : Inv X pins σ H s) : X.env.locals < s.heap.objs.size := let ⟨_, hn, _⟩ := I.loc; hn.lt
theorem Inv.sz (I : Inv X pins σ H s) : X.s₀.heap.objs.size ≤ s.heap.objs.size := Nat.le_trans I.ok.above (Nat.le_of_lt I.lt)
theorem Inv.nofs (I : Inv X pins σ H s) {a : Addr} (h : s.heap.objs.size ≤ a) : a ∉ X.fs := fun hb => by
  obtain ⟨_, o, ho, _⟩ := I.ok.funs.mem hb
  exact absurd (Nat.lt_of_lt_of_le (Heap.lt_size ho) (Nat.le_trans I.sz h)) (Nat.lt_irrefl _)
theorem Inv.cne (I : Inv X pins σ H s) : ∀ x c, X.env.cells.lookup x = some c → c ≠ X.env.locals := fun x c e z => by
  obtain ⟨v, o, ho, hd⟩ := I.cell x c e
  obtain ⟨m, ⟨o', es, ep, ho', hd', _⟩, _⟩ := I.loc
  rw [z, ho'] at ho; cases ho; rw [hd'] at hd; cases hd
theorem Inv.funs (I : Inv X pins σ H s) : s.heap.FunFrames X.base X.outer := by
  have all : ∀ (l : List Env), (∀ b ∈ frs l, b ∈ X.fs) → X.s₀.heap.FunFrames X.base l → s.heap.FunFrames X.base l := by
    intro l
    induction l with
    | nil => intro _ _; trivial
    | cons env r ih =>
      intro hs hl
      obtain ⟨hk, ⟨L, o, hf, hn, ho, hd⟩, hr⟩ := hl
      have hL : L ∈ X.fs := hs L (by unfold frs; rw [List.filterMap_cons, hf]; exact List.mem_cons_self)
      obtain ⟨sl, e⟩ := I.base.slot L o ho (I.ok.frf L hL) hL fun z => I.ok.exfs L z hL
      exact ⟨hk, ⟨L, _, hf, hn, e, hd⟩, ih (fun b hb => hs b (by unfold frs; rw [List.filterMap_cons, hf]; exact List.mem_cons_of_mem _ hb)) hr⟩
  exact all X.outer (fun _ hb => hb) I.ok.funs
theorem Inv.stack (I : Inv X pins σ H s) : s.heap.FunFrames X.base X.stack := by
  rcases I.ok.stk with e | ⟨e, hf⟩
  · rw [e]; exact I.funs
  · rw [e]
    obtain ⟨m, hn, _⟩ := I.loc
    refine .cons (by rw [I.ok.kind]; decide) hf hn ?_ I.funs
    exact Heap.get?_none_of_le (Nat.le_trans I.ok.bsz I.ok.above)
theorem Inv.stkSub (I : Inv X pins σ H s) : ∀ b ∈ frs X.stack, b ∈ X.env.locals :: X.fs := fun b hb => by
  rcases I.ok.stk with e | ⟨e, hf⟩
  · rw [e] at hb; exact List.mem_cons_of_mem _ hb
  · rw [e] at hb
    unfold frs at hb
    rw [List.filterMap_cons, hf] at hb
    exact hb
theorem Inv.stkFree (I : Inv X pins σ H s) : ∀ b ∈ frs X.stack, H b = none := fun b hb => by
  rcases List.mem_cons.mp (I.stkSub b hb) with e | hb
  · rw [e]; exact I.free
  · obtain ⟨_, o, ho, _⟩ := I.ok.funs.mem hb
    exact I.base.free b o ho (I.ok.frf b hb) fun z => I.ok.exfs b z hb
theorem Inv.step {g' : Array GenState} {t' : Nat} {d' : Drawn} {ch : List Addr} (I : Inv X pins σ H s)
    (hch : ∀ b ∈ ch, (b ∈ X.ex ∨ X.s₀.heap.objs.size ≤ b) ∧ b ≠ X.env.locals ∧ (∀ x c, X.env.cells.lookup x = some c → c ≠ b) ∧ ∀ p ∈ X.pn ++ pins, p.1 ≠ b)
    (keep : ∀ b o, b ≠ X.env.locals → b ∉ X.fs → b ∉ ch → s.heap.get? b = some o → H b = none → h'.get? b = some o)
    (slot : ∀ b o, b ≠ X.env.locals → b ∈ X.fs → b ∉ ch → s.heap.get? b = some o → H b = none → ∃ sl, h'.get? b = some { o with slots := sl }) (free : ∀ b o, b ∉ ch → s.heap.get? b = some o → H b = none → H' b = none)
    (there : ∀ b o, b ∉ ch → s.heap.get? b = some o → ∃ o', h'.get? b = some o')
    (tups : ∀ b xs, H b = some (.tup xs) → H' b = some (.tup xs)) (frzs : ∀ b o u, H b = some (.frz o u) → H' b = some (.frz o u)) (tbls : ∀ b ps, H b = some (.tbl ps) → ∃ more, H' b = some (.tbl (ps ++ more)))
    (ns : ∀ m, s.heap.Ns X.env.locals m → h'.Ns X.env.locals m) (hok : HOk X.prog X.w H' h') (hg : AllBare g') :
    Inv X pins σ H' { s with heap := h', gens := g', drawn := d', toks := t' } := by
  have neL : ∀ b o, X.s₀.heap.get? b = some o → b ≠ X.env.locals := fun b o e => Nat.ne_of_lt (Nat.lt_of_lt_of_le (Heap.lt_size e) I.ok.above)
  have neC : ∀ b o, X.s₀.heap.get? b = some o → b ∉ X.ex → b ∉ ch := fun b o e hx hb => by
    rcases (hch b hb).1 with z | z
    · exact hx z
    · exact absurd (Nat.lt_of_lt_of_le (Heap.lt_size e) z) (Nat.lt_irrefl _)
  have cellK : ∀ x c, X.env.cells.lookup x = some c → ∀ v, s.heap.IsCell c v → h'.IsCell c v := fun x c e v ⟨o, ho, hd⟩ => by
    have nch : c ∉ ch := fun z => (hch c z).2.2.1 x c e rfl
    by_cases hc : c ∈ X.fs
    · obtain ⟨sl, q⟩ := slot c o (I.cne x c e) hc nch ho (I.freeC x c e)
      exact ⟨_, q, hd⟩
    · exact ⟨o, keep c o (I.cne x c e) hc nch ho (I.freeC x c e), hd⟩
  refine ⟨I.ok, I.os, hg, ⟨fun b o e n hb hx => ?_, fun b o e n hb hx => ?_, fun b o e n hx => ?_, fun b o e hx => ?_, fun b xs e => tups b xs (I.base.tups b xs e), fun b o xs e => frzs b o xs (I.base.frzs b o xs e), fun b ps e => ?_⟩, ?_, fun x c e => ?_, ?_, fun x c e => ?_, fun p hp => ?_, hok, I.len⟩
  · exact keep b o (neL b o e) hb (neC b o e hx) (I.base.keep b o e n hb hx) (I.base.free b o e n hx)
  · obtain ⟨sl, e1⟩ := I.base.slot b o e n hb hx
    obtain ⟨sl', e2⟩ := slot b _ (neL b o e) hb (neC b o e hx) e1 (I.base.free b o e n hx)
    exact ⟨sl', e2⟩
  · obtain ⟨o', e1⟩ := I.base.there b o e hx
    exact free b o' (neC b o e hx) e1 (I.base.free b o e n hx)
  · obtain ⟨o', e1⟩ := I.base.there b o e hx
    exact there b o' (neC b o e hx) e1
  · obtain ⟨m1, e1⟩ := I.base.tbls b ps e
    obtain ⟨m2, e2⟩ := tbls b _ e1
    exact ⟨m1 ++ m2, by rw [e2, Array.append_assoc]⟩
  · obtain ⟨m, hn, hl⟩ := I.loc
    refine ⟨m, ns m hn, fun i x v e1 e2 e3 => ?_⟩
    obtain ⟨u, r, l⟩ := hl i x v e1 e2 e3
    refine ⟨u, r, ?_⟩
    rcases l with l | ⟨k, c, e, z⟩
    · exact .inl l
    · exact .inr ⟨k, c, e, cellK x c e _ z⟩
  · obtain ⟨v, z⟩ := I.cell x c e
    exact ⟨v, cellK x c e v z⟩
  · obtain ⟨m, ⟨o, _, _, ho, _⟩, _⟩ := I.loc
    exact free _ o (fun z => (hch _ z).2.1 rfl) ho I.free
  · obtain ⟨v, o, ho, hd⟩ := I.cell x c e
    exact free c o (fun z => (hch c z).2.2.1 x c e rfl) ho (I.freeC x c e)
  · obtain ⟨e, n, ne, nf, d⟩ := I.pin p hp
    have nch : p.1 ∉ ch := fun z => (hch p.1 z).2.2.2 p hp rfl
    exact ⟨keep p.1 p.2 ne nf nch e n, free p.1 p.2 nch e n, ne, nf, d⟩
theorem Inv.un {t' : Nat} (I : Inv X pins σ H s) (u : Un X.fs [] H H' s.heap h') (hok : HOk X.prog X.w H' h') : Inv X pins σ H' { s with heap := h', toks := t' } := by
  obtain ⟨m, ⟨o, es, ep, ho, r⟩, _⟩ := id I.loc
  obtain ⟨sl, hL⟩ := u.any ho I.free (by simp)
  exact I.step (g' := s.gens) (d' := s.drawn) (ch := []) (fun _ z => nomatch z) (fun b o _ hb _ e n => u.keep b o e n hb (by simp)) (fun b o _ hb _ e n => u.slot b o e n hb (by simp)) (fun b o _ e n => u.free b o e n (by simp)) (fun b o _ e => u.there b o e (by simp)) u.tups u.frzs u.tbls (fun m' hm => by
    obtain ⟨o', es', ep', ho', r'⟩ := hm
    rw [ho] at ho'; cases ho'
    exact ⟨_, es', ep', hL, r'⟩) hok I.bare
theorem Inv.call {g' : Array GenState} {t' : Nat} {d' : Drawn} {ch : List Addr} (I : Inv X pins σ H s) (u : Un (frs X.stack) ch H H' s.heap h') (hok : HOk X.prog X.w H' h') (hg : AllBare g')
    (hch : ∀ b ∈ ch, (b ∈ X.ex ∨ X.s₀.heap.objs.size ≤ b) ∧ b ≠ X.env.locals ∧ (∀ x c, X.env.cells.lookup x = some c → c ≠ b) ∧ ∀ p ∈ X.pn ++ pins, p.1 ≠ b) :
    Inv X pins σ H' { s with heap := h', gens := g', drawn := d', toks := t' } := by
  obtain ⟨m, ⟨o, es, ep, ho, r⟩, _⟩ := id I.loc
  obtain ⟨sl, hL⟩ := u.any ho I.free fun z => (hch _ z).2.1 rfl
  exact I.step (ch := ch) hch (fun b o hL hb hc e n => u.keep b o e n (fun z => (List.mem_cons.mp (I.stkSub b z)).elim hL hb) hc) (fun b o _ _ hc e n => u.any e n hc) (fun b o hc e n => u.free b o e n hc) (fun b o hc e => u.there b o e hc) u.tups u.frzs u.tbls (fun m' hm => by
    obtain ⟨o', es', ep', ho', r'⟩ := hm
    rw [ho] at ho'; cases ho'
    exact ⟨_, es', ep', hL, r'⟩) hok hg
theorem Inv.turned {t' : Nat} {it : Addr} (I : Inv X pins σ H s) (k : ∀ b o, b ≠ it → s.heap.get? b = some o → h'.get? b = some o) (hn : H it = none) (hL : it ≠ X.env.locals)
    (h1 : it ∈ X.ex ∨ X.s₀.heap.objs.size ≤ it) (h2 : ∀ x c, X.env.cells.lookup x = some c → c ≠ it) (h3 : ∀ p ∈ X.pn ++ pins, p.1 ≠ it) : Inv X pins σ H { s with heap := h', toks := t' } := by
  have nit : ∀ b u, H b = some u → b ≠ it := fun b u e z => by rw [z, hn] at e; cases e
  refine I.step (g' := s.gens) (d' := s.drawn) (ch := [it]) (fun b hb => ?_) (fun b o _ _ hc e _ => k b o (fun z => hc (by simp [z])) e) (fun b o _ _ hc e _ => ⟨o.slots, k b o (fun z => hc (by simp [z])) e⟩) (fun _ _ _ _ n => n)
    (fun b o hc e => ⟨o, k b o (fun z => hc (by simp [z])) e⟩) (fun _ _ e => e) (fun _ _ _ e => e) (fun b ps e => ⟨#[], by rw [e]; simp⟩) (fun m hm => ?_) (fun b u e => ?_) I.bare
  · have e : b = it := by simpa using hb
    subst e
    exact ⟨h1, hL, h2, h3⟩
  · obtain ⟨o, es, ep, ho, r⟩ := hm
    exact ⟨o, es, ep, k _ o (Ne.symm hL) ho, r⟩
  · refine (I.hok b u e).stay (fun c v hc q => k c v ?_ q) (fun _ q => q) fun _ _ q => q
    rcases hc with z | z
    · rw [z]; exact nit b u e
    · exact nit c _ z
theorem Inv.tok (I : Inv X pins σ H s) (t : Nat) : Inv X pins σ H { s with toks := t } := I.un (h' := s.heap) (t' := t) Un.refl I.hok
theorem Inv.kept {t' : Nat} (I : Inv X pins σ H s) (k : ∀ b u, s.heap.get? b = some u → h'.get? b = some u) : Inv X pins σ H { s with heap := h', toks := t' } := I.un (Un.kept k) (I.hok.kept k)
theorem Inv.laid {a : Addr} {o : HO} {t' : Nat} (I : Inv X pins σ H s) (k : ∀ b u, s.heap.get? b = some u → h'.get? b = some u) (hp : s.heap.objs.size ≤ a) (new : ObjOk X.prog X.w (upd H a o) h' a o) :
    Inv X pins σ (upd H a o) { s with heap := h', toks := t' } := I.un (Un.laid k hp (I.hok.fresh hp)) (I.hok.laid k hp new)
theorem Inv.write {x e : Addr} {o : HO} {t' : Nat} (I : Inv X pins σ H s) (mu : Mut (H x)) (he : e = x ∨ H e = some (.own x)) (k : ∀ b u, b ≠ e → s.heap.get? b = some u → h'.get? b = some u) (heo : ∃ u, h'.get? e = some u)
    (new : ObjOk X.prog X.w (upd H x o) h' x o) : Inv X pins σ (upd H x o) { s with heap := h', toks := t' } := I.un (Un.write mu he k heo) (I.hok.write mu he k heo new)
theorem Inv.pins_of {pins' : List (Addr × Obj)} (I : Inv X pins σ H s) (h : ∀ p ∈ pins', s.heap.get? p.1 = some p.2 ∧ H p.1 = none ∧ p.1 ≠ X.env.locals ∧ p.1 ∉ X.fs ∧ ∀ v, p.2.data ≠ .cell v) : Inv X pins' σ H s :=
  ⟨I.ok, I.os, I.bare, I.base, I.loc, I.cell, I.free, I.freeC, fun p hp => (List.mem_append.mp hp).elim (fun z => I.pin p (List.mem_append_left _ z)) (h p), I.hok, I.len⟩
theorem zke {N : List Str} (hN : N.Nodup) {i j : Nat} {x : Str} (a : N[i]? = some x) (b : N[j]? = some x) : i = j := by
  obtain ⟨h1, e1⟩ := List.getElem?_eq_some_iff.mp a
  obtain ⟨h2, e2⟩ := List.getElem?_eq_some_iff.mp b
  exact (List.getElem_inj hN).mp (e1.trans e2.symm)
theorem zlU {M : Model} {A : Around} {E : Value → Shared → Prop} {i : Nat} {x : Str} {v : V} {u : Value} {Q : Unit → Shared → Prop} (I : Inv X pins σ H s) (hN : X.N.Nodup) (hi : X.N[i]? = some x) (hx : Loc X.env.scope x) (r : RelV v u)
    (h : ∀ s', Inv X pins (σ.set i (some v)) H s' → (∃ a, Heap.SameBut a s.heap s'.heap ∧ (a = X.env.locals ∨ X.env.cells.lookup x = some a)) → Q () s') (hf : X.fn x = true ∨ X.env.scope.names.lookup x = some .local := by first | exact .inl rfl | exact .inr rfl | assumption) : wpAny M A (storeName X.env x u) Q E s := by
  obtain ⟨m, hn, hl⟩ := id I.loc
  have hcls : (X.env.scope.kind == .class || (X.env.scope.kind == .module && X.env.locals != X.env.globals)) = false := by rw [I.ok.kind]; rfl
  have hiσ : i < σ.length := by rw [I.len]; exact (List.getElem?_eq_some_iff.mp hi).1
  have cne := I.cne
  have tracked : ∀ {a : Addr} {h' : Heap}, (∃ o, s.heap.get? a = some o ∧ H a = none) → Heap.SameBut a s.heap h' → HOk X.prog X.w H h' := fun {a h'} ha hs b ob e => by
    obtain ⟨_, _, hfree⟩ := ha
    refine (I.hok b ob e).stay (fun c w' hc q => (hs.2 c ?_).trans q) (fun _ q => q) fun _ _ q => q
    rintro rfl
    rcases hc with rfl | hc
    · rw [hfree] at e; cases e
    · rw [hfree] at hc; cases hc
  rcases hx with hk | hk
  · refine wpAny_storeName_local hk hn (fun h' hn' hs => ?_) hcls
    obtain ⟨oL, _, _, hoL, _⟩ := id hn
    refine h _ ⟨I.ok, I.os, I.bare, ⟨fun b o e n hb hx => ?_, fun b o e n hb hx => ?_, I.base.free, fun b o e hx => ?_, I.base.tups, I.base.frzs, I.base.tbls⟩, ⟨_, hn', fun j y v' e1 e2 e3 => ?_⟩, fun y c e => ?_, I.free, I.freeC, fun p hp => ?_, tracked ⟨oL, hoL, I.free⟩ hs, by simpa using I.len⟩ ⟨_, hs, .inl rfl⟩
    · exact (hs.2 b (Nat.ne_of_lt (Nat.lt_of_lt_of_le (Heap.lt_size e) I.ok.above))).trans (I.base.keep b o e n hb hx)
    · obtain ⟨sl, e1⟩ := I.base.slot b o e n hb hx
      exact ⟨sl, (hs.2 b (Nat.ne_of_lt (Nat.lt_of_lt_of_le (Heap.lt_size e) I.ok.above))).trans e1⟩
    · obtain ⟨o', e1⟩ := I.base.there b o e hx
      exact ⟨o', (hs.2 b (Nat.ne_of_lt (Nat.lt_of_lt_of_le (Heap.lt_size e) I.ok.above))).trans e1⟩
    · by_cases hj : j = i
      · subst hj
        rw [hi] at e1; cases e1
        rw [List.getElem?_set_self hiσ] at e2
        cases e2
        exact ⟨u, r, .inl ⟨hk, by simp⟩⟩
      · rw [List.getElem?_set_ne (Ne.symm hj)] at e2
        obtain ⟨u', r', q⟩ := hl j y v' e1 e2 e3
        refine ⟨u', r', ?_⟩
        rcases q with ⟨k, e⟩ | ⟨k, c, e, z⟩
        · refine .inl ⟨k, ?_⟩
          have : y ≠ x := fun e => hj (zke hN e1 (e ▸ hi))
          simp [this, e]
        · exact .inr ⟨k, c, e, z.sameBut hs (cne y c e)⟩
    · obtain ⟨w', z⟩ := I.cell y c e
      exact ⟨w', z.sameBut hs (cne y c e)⟩
    · obtain ⟨e, n, ne, nf, d⟩ := I.pin p hp
      exact ⟨(hs.2 p.1 ne).trans e, n, ne, nf, d⟩
  · have hfn : X.fn x = true := by
      rcases hf with z | z
      · exact z
      · rw [z] at hk; cases hk
    obtain ⟨c, hc⟩ := I.ok.has x (.inl hk)
    obtain ⟨w', z⟩ := I.cell x c hc
    refine wpAny_storeName_cell I.ok.kind hk hc z (fun h' hc' hs => ?_)
    obtain ⟨oc, hoc, hocd⟩ := id z
    refine h { s with heap := h' } ⟨I.ok, I.os, I.bare, ⟨fun b o e n hb hx => ?_, fun b o e n hb hx => ?_, I.base.free, fun b o e hx => ?_, I.base.tups, I.base.frzs, I.base.tbls⟩, ⟨m, hn.sameBut hs (Ne.symm (cne x c hc)), fun j y v' e1 e2 e3 => ?_⟩, fun y c' e => ?_, I.free, I.freeC, fun p hp => ?_, tracked ⟨oc, hoc, I.freeC x c hc⟩ hs, by simpa using I.len⟩ ⟨c, hs, .inr hc⟩
    · exact (hs.2 b (Nat.ne_of_lt (Nat.lt_of_lt_of_le (Heap.lt_size e) (I.ok.cab x c hfn hc)))).trans (I.base.keep b o e n hb hx)
    · obtain ⟨sl, e1⟩ := I.base.slot b o e n hb hx
      exact ⟨sl, (hs.2 b (Nat.ne_of_lt (Nat.lt_of_lt_of_le (Heap.lt_size e) (I.ok.cab x c hfn hc)))).trans e1⟩
    · obtain ⟨o', e1⟩ := I.base.there b o e hx
      exact ⟨o', (hs.2 b (Nat.ne_of_lt (Nat.lt_of_lt_of_le (Heap.lt_size e) (I.ok.cab x c hfn hc)))).trans e1⟩
    · by_cases hj : j = i
      · subst hj
        rw [hi] at e1; cases e1
        rw [List.getElem?_set_self hiσ] at e2
        cases e2
        exact ⟨u, r, .inr ⟨.inl hk, c, hc, hc'⟩⟩
      · rw [List.getElem?_set_ne (Ne.symm hj)] at e2
        obtain ⟨u', r', q⟩ := hl j y v' e1 e2 e3
        refine ⟨u', r', ?_⟩
        rcases q with q | ⟨k, c', e, z'⟩
        · exact .inl q
        · refine .inr ⟨k, c', e, z'.sameBut hs ?_⟩
          rintro rfl
          exact hj (zke hN e1 (I.ok.inj _ _ _ e hc ▸ hi))
    · by_cases hcc : c' = c
      · subst hcc; exact ⟨_, hc'⟩
      · obtain ⟨w2, z2⟩ := I.cell y c' e
        exact ⟨w2, z2.sameBut hs hcc⟩
    · obtain ⟨e, n, ne, nf, d⟩ := I.pin p hp
      refine ⟨(hs.2 p.1 ?_).trans e, n, ne, nf, d⟩
      intro q
      rw [q, hoc] at e
      have q' : oc = p.2 := Option.some.inj e
      exact d w' (by rw [← q']; exact hocd)
theorem zkf {M : Model} {A : Around} {E : Value → Shared → Prop} {i : Nat} {x : Str} {v : V} {u : Value} {Q : Unit → Shared → Prop} (I : Inv X pins σ H s) (hN : X.N.Nodup) (hi : X.N[i]? = some x) (hx : Loc X.env.scope x) (r : RelV v u)
    (h : ∀ s', Inv X pins (σ.set i (some v)) H s' → Q () s') (hf : X.fn x = true ∨ X.env.scope.names.lookup x = some .local := by first | exact .inl rfl | exact .inr rfl | assumption) : wpAny M A (storeName X.env x u) Q E s :=
  zlU I hN hi hx r (fun s' I' _ => h s' I') hf
theorem Inv.call' {s' : Shared} {ch : List Addr} (I : Inv X pins σ H s) (ho : s'.os = s.os) (u : Un (frs X.stack) ch H H' s.heap s'.heap) (hok : HOk X.prog X.w H' s'.heap) (hg : AllBare s'.gens)
    (hch : ∀ b ∈ ch, (b ∈ X.ex ∨ X.s₀.heap.objs.size ≤ b) ∧ b ≠ X.env.locals ∧ (∀ x c, X.env.cells.lookup x = some c → c ≠ b) ∧ ∀ p ∈ X.pn ++ pins, p.1 ≠ b) : Inv X pins σ H' s' := by
  obtain ⟨h', g', d', t', o'⟩ := s'
  have e : o' = s.os := ho
  subst e
  exact I.call (g' := g') (t' := t') (d' := d') u hok hg hch
end
noncomputable abbrev XK := Value → Option Addr → Hp → Prop
noncomputable abbrev St := List (Option V)
noncomputable abbrev VK := V → Hp → Prop
noncomputable abbrev TE := St → Hp → VK → Prop
noncomputable abbrev TT := St → Hp → (Bool → Hp → Prop) → Prop
noncomputable abbrev TA := St → Hp → (List V → Hp → Prop) → Prop
structure Ends where
  nx : St → Hp → Prop
  rt : VK
  bk : St → Hp → Prop := fun _ _ => False
  ct : St → Hp → Prop := fun _ _ => False
noncomputable abbrev TS := Ends → St → Hp → Prop
noncomputable def EP (X : Cx) (pins : List (Addr × Obj)) (σ : St) (Q : VK) (u : Value) (s' : Shared) : Prop := ∃ v H', Inv X pins σ H' s' ∧ RelV v u ∧ Q v H'
noncomputable def TP (X : Cx) (pins : List (Addr × Obj)) (σ : St) (Q : Bool → Hp → Prop) (b : Bool) (s' : Shared) : Prop := ∃ H', Inv X pins σ H' s' ∧ Q b H'
noncomputable def AP (X : Cx) (pins : List (Addr × Obj)) (σ : St) (Q : List V → Hp → Prop) (us : List Value) (s' : Shared) : Prop := ∃ vs H', Inv X pins σ H' s' ∧ Vals vs us ∧ Q vs H'
noncomputable def SP (X : Cx) (pins : List (Addr × Obj)) (D : Ends) (f : Flow) (s' : Shared) : Prop :=
  match f with
  | .next => ∃ σ' H', Inv X pins σ' H' s' ∧ D.nx σ' H'
  | .brk => ∃ σ' H', Inv X pins σ' H' s' ∧ D.bk σ' H'
  | .cont => ∃ σ' H', Inv X pins σ' H' s' ∧ D.ct σ' H'
  | .ret u => ∃ v σ' H', Inv X pins σ' H' s' ∧ RelV v u ∧ D.rt v H'
noncomputable def PE (X : Cx) (e : Expr) (t : TE) : Prop :=
  ∀ (pins : List (Addr × Obj)) (s : Shared) (σ : St) (H : Hp) (Q : VK), Inv X pins σ H s → t σ H Q → wpAny (model X.prog X.w) X.A (eval e X.env) (EP X pins σ Q) X.xe s
noncomputable def PT (X : Cx) (e : Expr) (t : TT) : Prop :=
  ∀ (pins : List (Addr × Obj)) (s : Shared) (σ : St) (H : Hp) (Q : Bool → Hp → Prop), Inv X pins σ H s → t σ H Q → wpAny (model X.prog X.w) X.A (isTrue e X.env (eval e X.env)) (TP X pins σ Q) X.xe s
noncomputable def PW (X : Cx) (e : Expr) (t : TT) : Prop :=
  ∀ (whole : Sem Value) (pins : List (Addr × Obj)) (s : Shared) (σ : St) (H : Hp) (Q : Bool → Hp → Prop), Inv X pins σ H s → t σ H Q → wpAny (model X.prog X.w) X.A (isTrue e X.env whole) (TP X pins σ Q) X.xe s
theorem PW.pt {X : Cx} {e : Expr} {t : TT} (h : PW X e t) : PT X e t := h _
noncomputable def PA (X : Cx) (es : List Expr) (t : TA) : Prop :=
  ∀ (pos : Pos) (pins : List (Addr × Obj)) (s : Shared) (σ : St) (H : Hp) (Q : List V → Hp → Prop), Inv X pins σ H s → t σ H Q → wpAny (model X.prog X.w) X.A (spliced (backTo pos (starEach es X.env))) (AP X pins σ Q) X.xe s
noncomputable def PS (X : Cx) (st : Stmt) (t : TS) : Prop :=
  ∀ (pins : List (Addr × Obj)) (s : Shared) (σ : St) (H : Hp) (D : Ends), Inv X pins σ H s → t D σ H → wpAny (model X.prog X.w) X.A (exec st X.env) (SP X pins D) X.xe s
noncomputable def PSs (X : Cx) (st : List Stmt) (t : TS) : Prop :=
  ∀ (pins : List (Addr × Obj)) (s : Shared) (σ : St) (H : Hp) (D : Ends), Inv X pins σ H s → t D σ H → wpAny (model X.prog X.w) X.A (execs st X.env) (SP X pins D) X.xe s
theorem thn {α : Type} {t : Sem α} {Q Q' : α → Shared → Prop} {M : Model} {A : Around} {E : Value → Shared → Prop} {s : Shared} (h : wpAny M A t Q E s) (hQ : ∀ a s, Q a s → Q' a s) : wpAny M A t Q' E s := wpAny_mono h hQ fun _ _ x => x
end L2
namespace L2
open PySem PySem.Spec PyProof.Rows
section
variable {X : Cx}
noncomputable def tVar (i : Nat) : TE := fun σ H Q => ∃ v, σ[i]? = some (some v) ∧ Q v H
noncomputable def tC (v : V) : TE := fun _ H Q => Q v H
theorem zdv {i : Nat} {x : Str} {pos : Pos} (hN : X.N[i]? = some x) (hv : Vis X.env.scope x) (hd : (x == ("__debug__" : Str)) = false := by decide) (hcd : (x == ("__classdict__" : Str)) = false := by decide) : PE X (.Name x pos) (tVar i) := by
  intro pins s σ H Q I h
  obtain ⟨v, e, h⟩ := h
  obtain ⟨m, hn, hl⟩ := I.loc
  obtain ⟨u, r, l⟩ := hl i x v hN e hv
  have fin : EP X pins σ Q u s := ⟨v, H, I, r, h⟩
  rcases l with ⟨hk, hm⟩ | ⟨hk, c, hc, zf2⟩
  · exact wpAny_Name (wpAny_loadName_local I.ok.kind hk hn hm fin) hd
  · rcases hk with hk | hk
    · exact wpAny_Name (wpAny_loadName_cell I.ok.kind hk hc zf2 fin) hd
    · exact wpAny_Name (wpAny_loadName_free I.ok.kind hk hc zf2 fin hcd) hd
theorem zrQ {i j pos} : PE X (.Constant (.int i) j pos) (tC (.int i)) := fun _ _ _ H _ I h => wpAny_Constant_int ⟨.int i, H, I.tok _, ⟨_, rfl⟩, h⟩
theorem zvG {b j pos} : PE X (.Constant (.bool b) j pos) (tC (.bl b)) := fun _ _ _ H _ I h => Constant_bool ⟨.bl b, H, I, rfl, h⟩
theorem zrR {j pos} : PE X (.Constant .none j pos) (tC .non) := fun _ _ _ H _ I h => Constant_none ⟨.non, H, I, rfl, h⟩
noncomputable def Gl (X : Cx) (x : Str) : Prop := X.env.kindOf x = some .globalImplicit
theorem zlV {E : Value → Shared → Prop} {pins : List (Addr × Obj)} {s : Shared} {σ : St} {H : Hp} {x : Str} {u : Value} {pos : Pos} {Q : Value → Shared → Prop} (I : Inv X pins σ H s) (hg : Gl X x) (hm : X.mg x = some u) (h : Q u s)
    (hd : (x == ("__debug__" : Str)) = false := by decide) : wpAny (model X.prog X.w) X.A (eval (.Name x pos) X.env) Q E s :=
  Calls.Name_function_global I.ok.kind hg (Calls.loadGlobal_global (by rw [I.ok.glob]; exact I.mod.glob.keeps I.bk) hm h) hd
theorem zh0 {E : Value → Shared → Prop} {pins : List (Addr × Obj)} {s : Shared} {σ : St} {H : Hp} {x : Str} {u : Value} {pos : Pos} {Q : Value → Shared → Prop} (I : Inv X pins σ H s) (hg : Gl X x) (hm : X.mg x = none) (hv : bootBuiltins x = some u) (h : Q u s)
    (hn : x ≠ "__name__" := by decide) (hd : (x == ("__debug__" : Str)) = false := by decide) : wpAny (model X.prog X.w) X.A (eval (.Name x pos) X.env) Q E s := by
  obtain ⟨mb, h1, h2⟩ := I.mod.blt
  exact Calls.Name_function_global I.ok.kind hg (Calls.loadGlobal_builtin (by rw [I.ok.glob]; exact I.mod.glob.keeps I.bk) hm (by rw [I.ok.blt]; exact h1.keeps I.bk) ((h2 x hn).trans hv) h) hd
theorem zp2 {x : Str} {v : V} {u : Value} {pos : Pos} (hg : Gl X x) (hm : X.mg x = some u) (r : RelV v u) (hd : (x == ("__debug__" : Str)) = false := by decide) : PE X (.Name x pos) (tC v) :=
  fun _ _ _ H _ I h => zlV I hg hm ⟨v, H, I, r, h⟩ hd
theorem zp3 {x : Str} {v : V} {u : Value} {pos : Pos} (hg : Gl X x) (hm : X.mg x = none) (hv : bootBuiltins x = some u) (r : RelV v u) (hn : x ≠ "__name__" := by decide) (hd : (x == ("__debug__" : Str)) = false := by decide) : PE X (.Name x pos) (tC v) :=
  fun _ _ _ H _ I h => zh0 I hg hm hv ⟨v, H, I, r, h⟩ hn hd
variable {a b : Expr} {ta tb : TE} {pos : Pos}
noncomputable def PC (X : Cx) (op : CmpOp) (a b : Expr) (t : TE) : Prop :=
  ∀ (pins : List (Addr × Obj)) (s : Shared) (σ : St) (H : Hp) (Q : VK), Inv X pins σ H s → t σ H Q →
    wpAny (model X.prog X.w) X.A (eval a X.env) (fun v s₁ => wpAny (model X.prog X.w) X.A (eval b X.env) (fun u s₂ => wpAny (model X.prog X.w) X.A (compareOp op v u) (EP X pins σ Q) X.xe s₂) X.xe s₁) X.xe s
theorem zkg (b : Expr) {op : CmpOp} (h : op ≠ .In) (h2 : op ≠ .NotIn) : behindInMarks op b = false := by
  have e1 : (op == CmpOp.In) = false := by cases op <;> first | rfl | exact absurd rfl h
  have e2 : (op == CmpOp.NotIn) = false := by cases op <;> first | rfl | exact absurd rfl h2
  cases b <;> simp [behindInMarks, e1, e2]
noncomputable def tIsN (ta : TE) : TE := fun σ H Q => ta σ H fun x H1 => Q (.bl (decide (x = .non))) H1
noncomputable def zvH (ta : TE) : TE := fun σ H Q => ta σ H fun x H1 => Q (.bl (!decide (x = .non))) H1
theorem RelV.none_iff {x : V} {v : Value} (r : RelV x v) : (v == Value.none) = decide (x = .non) := by
  cases x with
  | non => cases r; rfl
  | bl _ => cases r; rfl
  | int _ => obtain ⟨t, rfl⟩ := r; rfl
  | str _ => obtain ⟨t, rfl⟩ := r; rfl
  | byt _ => obtain ⟨t, rfl⟩ := r; rfl
  | flt _ => obtain ⟨t, rfl⟩ := r; rfl
  | ref _ => cases r; rfl
  | ty _ => cases r; rfl
theorem zpo {j pos'} (ha : PE X a ta) : PC X .Is a (.Constant .none j pos') (tIsN ta) := by
  intro pins s σ H Q I h
  refine thn (ha pins s σ H _ I h) fun v s1 ⟨x, H1, I1, r1, q1⟩ => ?_
  exact Constant_none (is_none_gen ⟨.bl _, H1, I1, by rw [r1.none_iff]; rfl, q1⟩)
theorem zlW {j pos'} (ha : PE X a ta) : PC X .IsNot a (.Constant .none j pos') (zvH ta) := by
  intro pins s σ H Q I h
  refine thn (ha pins s σ H _ I h) fun v s1 ⟨x, H1, I1, r1, q1⟩ => ?_
  exact Constant_none (isnot_none_gen ⟨.bl _, H1, I1, by rw [r1.none_iff]; rfl, q1⟩)
noncomputable def tB (t : TE) : TT := fun σ H Q => t σ H fun x H1 => ∃ c, x = .bl c ∧ Q c H1
theorem zpp {op : CmpOp} {t : TE} (h : PC X op a b t) (h1 : behindInMarks op b = false := by first | exact zkg _ (by decide) (by decide) | rfl) : PE X (.Compare a [op] [b] pos) t := fun pins s σ H Q I hw => wpAny_Compare1 (h pins s σ H Q I hw) h1
theorem zpq {op : CmpOp} {t : TE} (h : PC X op a b t) (h1 : behindInMarks op b = false := by first | exact zkg _ (by decide) (by decide) | rfl) : PT X (.Compare a [op] [b] pos) (tB t) := by
  intro pins s σ H Q I hw
  refine wpAny_isTrue_Compare1 (thn (h pins s σ H _ I hw) fun v s1 h1 => thn h1 fun u s2 h2 => thn h2 fun c s3 ⟨x, H1, I1, r1, q1⟩ => ?_) h1
  obtain ⟨d, rfl, q⟩ := q1
  cases r1
  exact wpAny_truthy_bool ⟨H1, I1, q⟩
variable {tA tB' : TT} {rest : List Expr}
noncomputable def tAnd (t u : TT) : TT := fun σ H Q => t σ H fun c H1 => if c = true then u σ H1 Q else Q false H1
noncomputable def tOr (t u : TT) : TT := fun σ H Q => t σ H fun c H1 => if c = true then Q true H1 else u σ H1 Q
noncomputable def tNot (t : TT) : TT := fun σ H Q => t σ H fun c H1 => Q (!c) H1
theorem zp4 (ha : PT X a tA) : PW X (.BoolOp .And [a] pos) tA := by
  intro wh pins s σ H Q I h
  refine isTrue_and (thn (ha pins s σ H Q I h) fun c s1 e => ?_)
  cases c with
  | true => exact isTrue_and_nil e
  | false => exact e
theorem zrS (ha : PT X a tA) : PW X (.BoolOp .Or [a] pos) tA := by
  intro wh pins s σ H Q I h
  refine isTrue_or (thn (ha pins s σ H Q I h) fun c s1 e => ?_)
  cases c with
  | false => exact isTrue_or_nil e
  | true => exact e
theorem zrT (ha : PT X a tA) (hb : PW X (.BoolOp .And (b :: rest) pos) tB') : PW X (.BoolOp .And (a :: b :: rest) pos) (tAnd tA tB') := by
  intro wh pins s σ H Q I h
  refine isTrue_and (thn (ha pins s σ H _ I h) fun c s1 ⟨H1, I1, q1⟩ => ?_)
  cases c with
  | true => exact hb wh pins s1 σ H1 Q I1 q1
  | false => exact ⟨H1, I1, q1⟩
theorem zvI (ha : PT X a tA) (hb : PW X (.BoolOp .Or (b :: rest) pos) tB') : PW X (.BoolOp .Or (a :: b :: rest) pos) (tOr tA tB') := by
  intro wh pins s σ H Q I h
  refine isTrue_or (thn (ha pins s σ H _ I h) fun c s1 ⟨H1, I1, q1⟩ => ?_)
  cases c with
  | true => exact ⟨H1, I1, q1⟩
  | false => exact hb wh pins s1 σ H1 Q I1 q1
theorem zrU (ha : PT X a tA) : PT X (.UnaryOp .Not a pos) (tNot tA) := by
  intro pins s σ H Q I h
  exact isTrue_not (ha pins s σ H (fun c H1 => Q (!c) H1) I h)
noncomputable def zvJ (ta tb : TE) : TE := fun σ H Q => ta σ H fun x H1 => ∃ c, x = .bl c ∧ if c = true then tb σ H1 Q else Q (.bl false) H1
noncomputable def tOrV (ta tb : TE) : TE := fun σ H Q => ta σ H fun x H1 => ∃ c, x = .bl c ∧ if c = true then Q (.bl true) H1 else tb σ H1 Q
theorem zrV {op} {t : TE} (h : PE X a t) : PE X (.BoolOp op [a] pos) t := fun pins s σ H Q I hw => BoolOp_one (h pins s σ H Q I hw)
theorem zrW (ha : PE X a ta) (hb : PE X (.BoolOp .And (b :: rest) pos) tb) : PE X (.BoolOp .And (a :: b :: rest) pos) (zvJ ta tb) := by
  intro pins s σ H Q I h
  refine BoolOp_and (thn (ha pins s σ H _ I h) fun v s1 ⟨x, H1, I1, r1, q1⟩ => ?_)
  obtain ⟨c, rfl, q1⟩ := q1
  cases r1
  refine wpAny_truthy_bool ?_
  cases c with
  | true => exact hb pins s1 σ H1 Q I1 q1
  | false => exact ⟨.bl false, H1, I1, rfl, q1⟩
theorem zvK (ha : PE X a ta) (hb : PE X (.BoolOp .Or (b :: rest) pos) tb) : PE X (.BoolOp .Or (a :: b :: rest) pos) (tOrV ta tb) := by
  intro pins s σ H Q I h
  refine BoolOp_or (thn (ha pins s σ H _ I h) fun v s1 ⟨x, H1, I1, r1, q1⟩ => ?_)
  obtain ⟨c, rfl, q1⟩ := q1
  cases r1
  refine wpAny_truthy_bool ?_
  cases c with
  | false => exact hb pins s1 σ H1 Q I1 q1
  | true => exact ⟨.bl true, H1, I1, rfl, q1⟩
noncomputable def tIf (t : TT) (ta tb : TE) : TE := fun σ H Q => t σ H fun c H1 => if c = true then ta σ H1 Q else tb σ H1 Q
theorem znW {c : Expr} (hc : PT X c tA) (ha : PE X a ta) (hb : PE X b tb) : PE X (.IfExp c a b pos) (tIf tA ta tb) := by
  intro pins s σ H Q I h
  refine wpAny_IfExp (thn (hc pins s σ H _ I h) fun d s1 ⟨H1, I1, q1⟩ => ?_)
  cases d with
  | true => exact ha pins s1 σ H1 Q I1 q1
  | false => exact hb pins s1 σ H1 Q I1 q1
end
end L2
namespace L2
open PySem PySem.Spec PyProof.Rows
noncomputable def SqL (K : PySem.W.Frag) (H : Hp) (a : Addr) (xs : List V) : Prop :=
  Rd H a (.lst xs) ∨
    ∃ (o : Obj) (its : Array Value) (n : Nat), K.lookup a = some o ∧ o.cls = .type "list" ∧ o.dict = none ∧ o.data = .seq its n ∧ its.size ≤ sizeLine ∧ Vals xs its.toList
noncomputable def SqT (K : PySem.W.Frag) (H : Hp) (a : Addr) (xs : List V) : Prop :=
  Rd H a (.tup xs) ∨
    ∃ (o : Obj) (its : Array Value) (n : Nat), K.lookup a = some o ∧ o.cls = .type "tuple" ∧ o.data = .seq its n ∧ its.size ≤ sizeLine ∧ Vals xs its.toList
noncomputable def absV : Value → Option V
  | .none => some .non
  | .bool b => some (.bl b)
  | .int i _ => some (.int i)
  | .str x _ => some (.str x)
  | .bytes b _ => some (.byt b)
  | .float b _ => some (.flt b)
  | .ref a => some (.ref a)
  | .type n => some (.ty n)
  | _ => none
theorem RelV.abs {x : V} {u : Value} (r : RelV x u) : absV u = some x := by
  cases x with
  | non => cases r; rfl
  | bl _ => cases r; rfl
  | int _ => obtain ⟨t, rfl⟩ := r; rfl
  | str _ => obtain ⟨t, rfl⟩ := r; rfl
  | byt _ => obtain ⟨t, rfl⟩ := r; rfl
  | flt _ => obtain ⟨t, rfl⟩ := r; rfl
  | ref _ => cases r; rfl
  | ty _ => cases r; rfl
theorem RelV.inj {x y : V} {u : Value} (r : RelV x u) (q : RelV y u) : x = y := Option.some.inj (r.abs.symm.trans q.abs)
theorem Vals.inj : ∀ {xs ys : List V} {us : List Value}, Vals xs us → Vals ys us → xs = ys
  | _, _, _, .nil, .nil => rfl
  | _, _, _, .cons r t, .cons r' t' => by rw [r.inj r', Vals.inj t t']
section
variable {X : Cx} {pins : List (Addr × Obj)} {σ : St} {H : Hp} {s : Shared} {a : Addr} {xs ys : List V}
theorem SqL.of {K : PySem.W.Frag} (h : H a = some (.lst xs)) : SqL K H a xs := .inl (.inl h)
theorem SqT.of {K : PySem.W.Frag} (h : H a = some (.tup xs)) : SqT K H a xs := .inl (.inl h)
theorem Inv.list (I : Inv X pins σ H s) (h : SqL X.K H a xs) : ∃ its : List Value, Vals xs its ∧ PlainL s.heap a its.toArray ∧ xs.length ≤ sizeLine := by
  rcases h with h | ⟨o, its, n, hk, hc, hd, hs, hz, r⟩
  · obtain ⟨z, its, n, r, e⟩ := h.ok I.hok
    exact ⟨its, r, ⟨_, n, e, rfl, rfl, rfl⟩, z⟩
  · refine ⟨its.toList, r, ⟨o, n, I.kIn a o hk, hc, hd, by simpa using hs⟩, ?_⟩
    have e := r.length
    simp only [Array.length_toList] at e
    omega
theorem Inv.tuple (I : Inv X pins σ H s) (h : SqT X.K H a xs) : ∃ its : List Value, Vals xs its ∧ IsTup s.heap a its.toArray ∧ xs.length ≤ sizeLine := by
  rcases h with h | ⟨o, its, n, hk, hc, hs, hz, r⟩
  · obtain ⟨z, its, r, p⟩ := h.ok I.hok
    exact ⟨its, r, p, z⟩
  · refine ⟨its.toList, r, ⟨o, I.kIn a o hk, hc, n, by simpa using hs⟩, ?_⟩
    have e := r.length
    simp only [Array.length_toList] at e
    omega
theorem Inv.list_inj (I : Inv X pins σ H s) (h : SqL X.K H a xs) (h' : SqL X.K H a ys) : xs = ys := by
  obtain ⟨its, r, ⟨o, n, e, _, _, d⟩, _⟩ := I.list h
  obtain ⟨its', r', ⟨o', n', e', _, _, d'⟩, _⟩ := I.list h'
  rw [e] at e'; cases e'
  rw [d] at d'
  injection d' with d1 _
  have : its = its' := by simpa using congrArg Array.toList d1
  subst this
  exact r.inj r'
theorem Inv.tuple_inj (I : Inv X pins σ H s) (h : SqT X.K H a xs) (h' : SqT X.K H a ys) : xs = ys := by
  obtain ⟨its, r, ⟨o, e, _, n, d⟩, _⟩ := I.tuple h
  obtain ⟨its', r', ⟨o', e', _, n', d'⟩, _⟩ := I.tuple h'
  rw [e] at e'; cases e'
  rw [d] at d'
  injection d' with d1 _
  have : its = its' := by simpa using congrArg Array.toList d1
  subst this
  exact r.inj r'
end
noncomputable abbrev Cx.wish (X : Cx) (E : Value → Shared → Prop) : Cx := { X with xe := E }
noncomputable abbrev Cx.nox (X : Cx) : Cx := X.wish fun _ _ => False
theorem Cx.Ok.wish {X : Cx} (ok : X.Ok) (E : Value → Shared → Prop) : (X.wish E).Ok :=
  ⟨ok.mod, ok.kind, ok.glob, ok.blt, ok.above, ok.inj, ok.has, ok.cab, ok.hd, ok.frames, ok.stk, ok.exf, ok.bs, ok.bsz, ok.noex, ok.exfs, ok.funs, ok.frf⟩
theorem Cx.Ok.unwish {X : Cx} {E : Value → Shared → Prop} (ok : (X.wish E).Ok) : X.Ok :=
  ⟨ok.mod, ok.kind, ok.glob, ok.blt, ok.above, ok.inj, ok.has, ok.cab, ok.hd, ok.frames, ok.stk, ok.exf, ok.bs, ok.bsz, ok.noex, ok.exfs, ok.funs, ok.frf⟩
section
variable {X : Cx} {pins : List (Addr × Obj)} {σ : St} {H : Hp} {s : Shared} {E : Value → Shared → Prop}
theorem Inv.wish (I : Inv X pins σ H s) (E : Value → Shared → Prop) : Inv (X.wish E) pins σ H s := ⟨I.ok.wish E, I.os, I.bare, I.base, I.loc, I.cell, I.free, I.freeC, I.pin, I.hok, I.len⟩
theorem Inv.unwish (I : Inv (X.wish E) pins σ H s) : Inv X pins σ H s := ⟨I.ok.unwish, I.os, I.bare, I.base, I.loc, I.cell, I.free, I.freeC, I.pin, I.hok, I.len⟩
theorem SP.unwish {D : Ends} {f : Flow} {s' : Shared} (h : SP (X.wish E) pins D f s') : SP X pins D f s' := by
  cases f with
  | next => obtain ⟨σ', H', I, q⟩ := h; exact ⟨σ', H', I.unwish, q⟩
  | brk => obtain ⟨σ', H', I, q⟩ := h; exact ⟨σ', H', I.unwish, q⟩
  | cont => obtain ⟨σ', H', I, q⟩ := h; exact ⟨σ', H', I.unwish, q⟩
  | ret u => obtain ⟨v, σ', H', I, r, q⟩ := h; exact ⟨v, σ', H', I.unwish, r, q⟩
theorem PE.nox {e : Expr} {t : TE} (h : PE X.nox e t) : PE X e t := fun pins s σ H Q I hw =>
  wpAny_mono (h pins s σ H Q (I.wish _) hw) (fun _ _ ⟨v, H', I', r, q⟩ => ⟨v, H', I'.unwish, r, q⟩) fun _ _ z => False.elim z
theorem PT.nox {e : Expr} {t : TT} (h : PT X.nox e t) : PT X e t := fun pins s σ H Q I hw =>
  wpAny_mono (h pins s σ H Q (I.wish _) hw) (fun _ _ ⟨H', I', q⟩ => ⟨H', I'.unwish, q⟩) fun _ _ z => False.elim z
theorem PSs.nox {st : List Stmt} {t : TS} (h : PSs X.nox st t) : PSs X st t := fun pins s σ H D I hw =>
  wpAny_mono (h pins s σ H D (I.wish _) hw) (fun _ _ q => q.unwish) fun _ _ z => False.elim z
end
section
variable {X : Cx} {st : Stmt} {rest : List Stmt} {t u : TS} {e : Expr} {te : TE} {pos : Pos}
noncomputable def zvL : TS := fun D σ H => D.nx σ H
noncomputable def tSeq (t u : TS) : TS := fun D σ H => t { D with nx := u D } σ H
theorem zp5 : PSs X [] zvL := fun _ _ σ H _ I h => wpAny_execs_nil ⟨σ, H, I, h⟩
theorem znX (h1 : PS X st t) (h2 : PSs X rest u) : PSs X (st :: rest) (tSeq t u) := by
  intro pins s σ H D I h
  refine wpAny_execs_cons (thn (h1 pins s σ H { D with nx := u D } I h) fun f s1 q => ?_)
  cases f with
  | next =>
    obtain ⟨σ', H', I', q⟩ := q
    exact h2 pins s1 σ' H' D I' q
  | ret v => exact q
  | brk => exact q
  | cont => exact q
theorem Inv.quiet {pins : List (Addr × Obj)} {σ : St} {H : Hp} {s : Shared} (I : Inv X pins σ H s) : interactive X.env = false := by simp [interactive, I.ok.kind]
noncomputable def zvM (te : TE) : TS := fun D σ H => te σ H fun _ H1 => D.nx σ H1
theorem zjn (he : PE X e te) (hs : swapsWith e none pos.line X.env = pure false := by rfl) : PS X (.Expr e pos) (zvM te) := by
  intro pins s σ H D I h
  exact wpAny_Expr_any (thn (he pins s σ H _ I h) fun v s1 ⟨x, H1, I1, r1, q1⟩ => ⟨σ, H1, I1, q1⟩) I.quiet hs
noncomputable def tRet (te : TE) : TS := fun D σ H => te σ H D.rt
theorem zpr (he : PE X e te) : PS X (.Return (some e) pos) (tRet te) := by
  intro pins s σ H D I h
  exact wpAny_Return_some (thn (he pins s σ H _ I h) fun v s1 ⟨x, H1, I1, r1, q1⟩ => ⟨x, σ, H1, I1, r1, q1⟩)
noncomputable def tIfS (c : TT) (t u : TS) : TS := fun D σ H => c σ H fun b H1 => if b = true then t D σ H1 else u D σ H1
theorem zvN {c : Expr} {a b : List Stmt} {tc : TT} (hc : PT X c tc) (ha : PSs X a t) (hb : PSs X b u) : PS X (.If c a b pos) (tIfS tc t u) := by
  intro pins s σ H D I h
  refine wpAny_If (thn (hc pins s σ H _ I h) fun d s1 ⟨H1, I1, q1⟩ => ?_)
  cases d with
  | true => exact ha pins s1 σ H1 D I1 q1
  | false => exact hb pins s1 σ H1 D I1 q1
noncomputable def zrX : TS := fun _ _ _ => False
theorem znY : PS X st zrX := fun _ _ _ _ _ _ h => h.elim
end
noncomputable abbrev TG := V → St → Hp → (St → Hp → Prop) → Prop
noncomputable abbrev TGs := List V → St → Hp → (St → Hp → Prop) → Prop
noncomputable def PG (X : Cx) (target : Expr) (t : TG) : Prop :=
  ∀ (pins : List (Addr × Obj)) (s : Shared) (σ : St) (H : Hp) (v : V) (u : Value) (Q : St → Hp → Prop), Inv X pins σ H s → RelV v u → t v σ H Q →
    wpAny (model X.prog X.w) X.A (assign target X.env u) (fun _ s' => ∃ σ' H', Inv X pins σ' H' s' ∧ Q σ' H') X.xe s
noncomputable def PGs (X : Cx) (ts : List Expr) (t : TGs) : Prop :=
  ∀ (pins : List (Addr × Obj)) (s : Shared) (σ : St) (H : Hp) (vs : List V) (us : List Value) (Q : St → Hp → Prop), Inv X pins σ H s → Vals vs us → t vs σ H Q →
    wpAny (model X.prog X.w) X.A (assignInOrder ((assignEach ts X.env).map (·.2)) us) (fun _ s' => ∃ σ' H', Inv X pins σ' H' s' ∧ Q σ' H') X.xe s
section
variable {X : Cx} {pos : Pos}
noncomputable def zp6 (i : Nat) : TG := fun v σ H Q => Q (σ.set i (some v)) H
theorem zea {i : Nat} {x : Str} (hN : X.N.Nodup) (hi : X.N[i]? = some x) (hx : Loc X.env.scope x) (hf : X.fn x = true ∨ X.env.scope.names.lookup x = some .local := by first | exact .inl rfl | exact .inr rfl | assumption) : PG X (.Name x pos) (zp6 i) := by
  intro pins s σ H v u Q I r h
  exact wpAny_assign_Name (zkf I hN hi hx r (fun s' I' => ⟨_, H, I', h⟩) hf)
noncomputable def gNil : TGs := fun vs σ H Q => vs = [] ∧ Q σ H
noncomputable def zvO (t : TG) (u : TGs) : TGs := fun vs σ H Q => ∃ v r, vs = v :: r ∧ t v σ H fun σ' H' => u r σ' H' Q
theorem zp7 : PGs X [] gNil := by
  intro pins s σ H vs us Q I r h
  obtain ⟨e, h⟩ := h
  subst e
  cases r
  exact assignInOrder_nil ⟨σ, H, I, h⟩
theorem zgY {e : Expr} {es : List Expr} {t : TG} {u : TGs} (h1 : PG X e t) (h2 : PGs X es u)
    (hs : (assignEach (e :: es) X.env).map (·.2) = assign e X.env :: (assignEach es X.env).map (·.2) := by rfl) : PGs X (e :: es) (zvO t u) := by
  intro pins s σ H vs us Q I r h
  obtain ⟨v, vr, e1, h⟩ := h
  subst e1
  cases r with
  | cons r rr =>
    rw [hs]
    refine assignInOrder_cons (thn (h1 pins s σ H _ _ _ I r h) fun _ s1 ⟨σ1, H1, I1, q1⟩ => ?_)
    exact h2 pins s1 σ1 H1 _ _ Q I1 rr q1
noncomputable def tAsg (te : TE) (g : TG) : TS := fun D σ H => te σ H fun x H1 => g x σ H1 D.nx
theorem zrY {tg e : Expr} {te : TE} {g : TG} (he : PE X e te) (hg : PG X tg g) (hs : swapsWithSole [tg] e pos.line X.env = pure false := by rfl) (hw : swappedStores [tg] e X.env = pure none := by rfl)
    (h1 : (assignEach [tg] X.env).map (·.2) = [assign tg X.env] := by rfl) : PS X (.Assign [tg] e pos) (tAsg te g) := by
  intro pins s σ H D I h
  refine wpAny_Assign_stores (thn (he pins s σ H _ I h) fun v s1 ⟨x, H1, I1, r1, q1⟩ => ?_) hs hw
  rw [h1]
  exact thn (hg pins s1 σ H1 x v _ I1 r1 q1) fun _ s2 q => q
theorem zlX {i : Nat} {x : Str} {e : Expr} {te : TE} {pos' : Pos} (hN : X.N.Nodup) (hi : X.N[i]? = some x) (hx : Loc X.env.scope x) (he : PE X e te) (hs : swapsWith e (some (.Name x pos')) pos.line X.env = pure false := by rfl) (hf : X.fn x = true ∨ X.env.scope.names.lookup x = some .local := by first | exact .inl rfl | exact .inr rfl | assumption) :
    PS X (.Assign [.Name x pos'] e pos) (tAsg te (zp6 i)) := by
  intro pins s σ H D I h
  refine wpAny_Assign_Name (thn (he pins s σ H _ I h) fun v s1 ⟨y, H1, I1, r1, q1⟩ => ?_) hs
  exact zkf I1 hN hi hx r1 (fun s2 I2 => ⟨_, H1, I2, q1⟩) hf
end
section
variable {X : Cx} {pos : Pos}
noncomputable def zrZ (c : TT) (tb : TS) : TS := fun D σ H => ∃ W : Nat → St → Hp → Prop, (∃ m, W m σ H) ∧ ∀ m σ H, W m σ H →
  c σ H fun b H1 => if b = true then ∃ N : St → Hp → Prop, (∀ σ' H', N σ' H' → ∃ m', m' < m ∧ W m' σ' H') ∧ tb { D with nx := N, ct := N, bk := D.nx } σ H1 else D.nx σ H1
theorem znZ {c : Expr} {body : List Stmt} {tc : TT} {tb : TS} (hp : PassesOwn (model X.prog X.w) X.A X.env X.xe) (hc : PT X c tc) (hb : PSs X body tb) : PS X (.While c body [] pos) (zrZ tc tb) := by
  intro pins s σ H D I h
  obtain ⟨W, ⟨m0, w0⟩, turn⟩ := h
  refine wpAny_While (codeAny_whileLoop (fun n s' => ∃ σ' H', Inv X pins σ' H' s' ∧ W n σ' H') ?_ m0 ⟨σ, H, I, w0⟩)
  rintro n s1 ⟨σ1, H1, I1, w1⟩
  refine wpAny_passesOwn hp (thn (hc pins s1 σ1 H1 _ I1 (turn n σ1 H1 w1)) fun b s2 ⟨H2, I2, q2⟩ => ?_)
  cases b with
  | true =>
    obtain ⟨N, hN, q2⟩ := q2
    rw [if_pos rfl]
    refine wpAny_passesOwn hp (thn (hb pins s2 σ1 H2 _ I2 q2) fun f s3 q3 => ?_)
    cases f with
    | next =>
      obtain ⟨σ3, H3, I3, n3⟩ := q3
      obtain ⟨m', hm, w3⟩ := hN σ3 H3 n3
      exact ⟨m', hm, σ3, H3, I3, w3⟩
    | cont =>
      obtain ⟨σ3, H3, I3, n3⟩ := q3
      obtain ⟨m', hm, w3⟩ := hN σ3 H3 n3
      exact ⟨m', hm, σ3, H3, I3, w3⟩
    | brk => exact q3
    | ret v => exact q3
  | false =>
    rw [if_neg Bool.false_ne_true]
    exact wpAny_execs_nil ⟨σ1, H2, I2, q2⟩
end
structure It where
  go : Nat → Hp → Prop
  yld : Nat → Hp → V → Hp → Prop
  stop : Nat → Hp → Prop
noncomputable def FpOk (X : Cx) (pins : List (Addr × Obj)) (H : Hp) (b : Addr) : Prop :=
  H b = none ∧ b ≠ X.env.locals ∧ b ∉ X.fs ∧ (b ∈ X.ex ∨ X.s₀.heap.objs.size ≤ b) ∧ (∀ x c, X.env.cells.lookup x = some c → c ≠ b) ∧ ∀ p ∈ X.pn ++ pins, p.1 ≠ b
theorem Inv.fpOk {X : Cx} {pins : List (Addr × Obj)} {σ : St} {H H' : Hp} {s : Shared} {b : Addr} (I : Inv X pins σ H s) (hb : s.heap.objs.size ≤ b) (hn : H' b = none) : FpOk X pins H' b := by
  refine ⟨hn, Nat.ne_of_gt (Nat.lt_of_lt_of_le I.lt hb), I.nofs hb, .inr (Nat.le_trans I.sz hb), fun x c e z => ?_, fun p hp z => ?_⟩
  · obtain ⟨v, q⟩ := I.cell x c e
    exact absurd (Nat.lt_of_lt_of_le q.lt (by rw [z]; exact hb)) (Nat.lt_irrefl _)
  · exact absurd (Nat.lt_of_lt_of_le (Heap.lt_size (I.pin p hp).1) (by rw [z]; exact hb)) (Nat.lt_irrefl _)
structure Turn (P : Program) (w : World) (K : PySem.W.Frag) (tg : Expr) (J : It) (fp : List Addr) (it : Addr) (tn : Nat → Heap → Prop) : Prop where
  mem : it ∈ fp
  obj : ∀ i h, tn i h → ∀ b ∈ fp, ∃ o, h.get? b = some o ∧ ∀ v, o.data ≠ .cell v
  keep : ∀ i h h', tn i h → (∀ b ∈ fp, ∀ o, h.get? b = some o → h'.get? b = some o) → tn i h'
  item : ∀ (X : Cx), X.prog = P → X.w = w → X.K = K → X.calm = true → ∀ (i : Nat) (pins : List (Addr × Obj)) (s : Shared) (σ : St) (H : Hp) (E : Value → Shared → Prop), Inv X pins σ H s → (∀ b ∈ fp, FpOk X pins H b) → tn i s.heap → J.go i H →
    wpAny (model P w) X.A (pyNext (.ref it)) (fun r s1 => ∃ u, r = some u ∧
      wpAny (model P w) X.A (letOwnedTupleGo tg (.ref it) u) (fun _ s2 => ∃ x H', Inv X pins σ H' s2 ∧ RelV x u ∧ J.yld i H x H' ∧ tn (i + 1) s2.heap ∧ ∀ b ∈ fp, H' b = none) E s1) E s
  done : ∀ (X : Cx), X.prog = P → X.w = w → X.K = K → X.calm = true → ∀ (i : Nat) (pins : List (Addr × Obj)) (s : Shared) (σ : St) (H : Hp) (E : Value → Shared → Prop), Inv X pins σ H s → (∀ b ∈ fp, FpOk X pins H b) → tn i s.heap → J.stop i H →
    wpAny (model P w) X.A (pyNext (.ref it)) (fun r s1 => r = none ∧ Inv X pins σ H s1) E s
  self : ∀ (A : Around) (i : Nat) (s : Shared) (Q : Value → Shared → Prop) (E : Value → Shared → Prop), tn i s.heap → Q (.ref it) s → wpAny (model P w) A (pyIter (.ref it)) Q E s
noncomputable abbrev TI := St → Hp → (It → Hp → Prop) → Prop
noncomputable def PIE (X : Cx) (pins : List (Addr × Obj)) (σ : St) (tg : Expr) (R : It → Hp → Prop) (itv : Value) (s2 : Shared) : Prop :=
  ∃ (it : Addr) (fp : List Addr) (tn : Nat → Heap → Prop) (J : It) (H' : Hp), itv = .ref it ∧ Inv X pins σ H' s2 ∧ Turn X.prog X.w X.K tg J fp it tn ∧ tn 0 s2.heap ∧ (∀ b ∈ fp, FpOk X pins H' b) ∧ R J H'
noncomputable def PI (X : Cx) (tg iter : Expr) (wi : TI) : Prop :=
  ∀ (pins : List (Addr × Obj)) (s : Shared) (σ : St) (H : Hp) (R : It → Hp → Prop), Inv X pins σ H s → wi σ H R →
    wpAny (model X.prog X.w) X.A (eval iter X.env) (fun v s1 => wpAny (model X.prog X.w) X.A (pyIter v) (PIE X pins σ tg R) X.xe s1) X.xe s
theorem zp8 {M : Model} {A : Around} {E : Value → Shared → Prop} {s : Shared} {tg : Expr} {it : Addr} {u : Value} {o : Obj} {n : String} {vs : Array Value} {Q : Unit → Shared → Prop} (ho : s.heap.get? it = some o) (hc : o.cls = .type n) (hd : o.data = .fields vs)
    (hn : ["enumerate", "zip", "dict_itemiterator", "dict_reverseitemiterator", "odict_iterator", "itertools.zip_longest", "itertools.pairwise"].contains n = false) (hQ : Q () s) : wpAny M A (letOwnedTupleGo tg (.ref it) u) Q E s := by
  unfold letOwnedTupleGo
  cases tg <;> first
    | exact wpAny_pure hQ
    | (cases u <;> first
        | exact wpAny_pure hQ
        | (refine wpAny_bind (wpAny_load ho ?_)
           rw [hc, hd]
           show wpAny M A (if (["enumerate", "zip", "dict_itemiterator", "dict_reverseitemiterator", "odict_iterator", "itertools.zip_longest", "itertools.pairwise"].contains n && vs[0]? == some (rawInt _)) = true then _ else _) Q E s
           rw [if_neg (by intro h; rw [hn, Bool.false_and] at h; cases h)]
           exact wpAny_pure hQ))
noncomputable def Itl (K : PySem.W.Frag) (a : Addr) : It :=
  ⟨fun i H => ∃ xs x, SqL K H a xs ∧ xs[i]? = some x, fun i H x H' => H' = H ∧ ∀ xs, SqL K H a xs → xs[i]? = some x, fun i H => ∃ xs, SqL K H a xs ∧ xs.length ≤ i⟩
noncomputable def Itt (K : PySem.W.Frag) (a : Addr) : It :=
  ⟨fun i H => ∃ xs x, SqT K H a xs ∧ xs[i]? = some x, fun i H x H' => H' = H ∧ ∀ xs, SqT K H a xs → xs[i]? = some x, fun i H => ∃ xs, SqT K H a xs ∧ xs.length ≤ i⟩
noncomputable def Itr (lo : Int) (n : Nat) : It := ⟨fun i _ => i < n, fun i H x H' => H' = H ∧ x = .int (lo + i), fun i _ => n ≤ i⟩
theorem zlY {P : Program} {w : World} {K : PySem.W.Frag} {tg : Expr} (a it : Addr) : Turn P w K tg (Itl K a) [it] it (fun i h => h.IsListIter it a i) where
  mem := by simp
  obj := fun i h st b hb => by
    have e : b = it := by simpa using hb
    subst e
    obtain ⟨o, e, c, d⟩ := st
    exact ⟨o, e, fun v z => by rw [d] at z; cases z⟩
  keep := fun i h h' st k => st.at fun o e => k it (by simp) o e
  item := by
    intro X hP hw hK hc i pins s σ H E I hf st hg
    subst hP hw hK
    obtain ⟨xs, x, hq, hx⟩ := hg
    obtain ⟨its, rv, p, hz⟩ := I.list hq
    obtain ⟨u, hu, ru⟩ := rv.get hx
    obtain ⟨f0, f1, f2, f3, f4, f5⟩ := hf it (by simp)
    refine wpAny_pyNext_list_item st p.isList (x := u) (by simpa using hu) fun h' st' sb => ?_
    have I1 : Inv X pins σ H { s with heap := h' } := I.turned (t' := s.toks) (fun b o hb e => (sb.2 b hb).trans e) f0 f1 f3 f4 f5
    obtain ⟨o, e, c, d⟩ := id st'
    exact ⟨u, rfl, zp8 (s := { s with heap := h' }) e c d (by decide) ⟨x, H, I1, ru, ⟨rfl, fun ys hy => by rw [I.list_inj hy hq]; exact hx⟩, st', fun b hb => (hf b hb).1⟩⟩
  done := by
    intro X hP hw hK hc i pins s σ H E I hf st hg
    subst hP hw hK
    obtain ⟨xs, hq, hx⟩ := hg
    obtain ⟨its, rv, p, hz⟩ := I.list hq
    obtain ⟨f0, f1, f2, f3, f4, f5⟩ := hf it (by simp)
    have hl := rv.length
    exact wpAny_pyNext_list_end (I.ok.hd hc) st p.isList (by simp; omega) fun h' eb => ⟨rfl, I.turned (t' := s.toks) (fun b o hb e => eb b o hb e) f0 f1 f3 f4 f5⟩
  self := fun _ _ _ _ _ st h => wpAny_pyIter_listiter st h
theorem zle {P : Program} {w : World} {K : PySem.W.Frag} {tg : Expr} (a it : Addr) : Turn P w K tg (Itt K a) [it] it (fun i h => h.IsTupleIter it a i) where
  mem := by simp
  obj := fun i h st b hb => by
    have e : b = it := by simpa using hb
    subst e
    obtain ⟨o, e, c, d⟩ := st
    exact ⟨o, e, fun v z => by rw [d] at z; cases z⟩
  keep := fun i h h' st k => st.at fun o e => k it (by simp) o e
  item := by
    intro X hP hw hK hc i pins s σ H E I hf st hg
    subst hP hw hK
    obtain ⟨xs, x, hq, hx⟩ := hg
    obtain ⟨its, rv, p, hz⟩ := I.tuple hq
    obtain ⟨u, hu, ru⟩ := rv.get hx
    obtain ⟨f0, f1, f2, f3, f4, f5⟩ := hf it (by simp)
    refine wpAny_pyNext_tuple_item st (show s.heap.IsTuple a its.toArray from p) (x := u) (by simpa using hu) fun h' st' sb => ?_
    have I1 : Inv X pins σ H { s with heap := h' } := I.turned (t' := s.toks) (fun b o hb e => (sb.2 b hb).trans e) f0 f1 f3 f4 f5
    obtain ⟨o, e, c, d⟩ := id st'
    exact ⟨u, rfl, zp8 (s := { s with heap := h' }) e c d (by decide) ⟨x, H, I1, ru, ⟨rfl, fun ys hy => by rw [I.tuple_inj hy hq]; exact hx⟩, st', fun b hb => (hf b hb).1⟩⟩
  done := by
    intro X hP hw hK hc i pins s σ H E I hf st hg
    subst hP hw hK
    obtain ⟨xs, hq, hx⟩ := hg
    obtain ⟨its, rv, p, hz⟩ := I.tuple hq
    obtain ⟨f0, f1, f2, f3, f4, f5⟩ := hf it (by simp)
    have hl := rv.length
    exact wpAny_pyNext_tuple_end (I.ok.hd hc) st (show s.heap.IsTuple a its.toArray from p) (by simp; omega) fun h' eb => ⟨rfl, I.turned (t' := s.toks) (fun b o hb e => eb b o hb e) f0 f1 f3 f4 f5⟩
  self := fun _ _ _ _ _ st h => wpAny_pyIter_tupleiter st h
theorem zlf {P : Program} {w : World} {K : PySem.W.Frag} {tg : Expr} (it : Addr) (lo : Int) (n : Nat) : Turn P w K tg (Itr lo n) [it] it (fun i h => IsRangeIter h it (lo + (i : Nat) * 1) ((n : Int) - (i : Nat)) 1) where
  mem := by simp
  obj := fun i h st b hb => by
    have e : b = it := by simpa using hb
    subst e
    exact ⟨_, st, fun v z => by
      have z' : Data.fields _ = Data.cell v := z
      cases z'⟩
  keep := fun i h h' st k => k it (by simp) _ st
  item := by
    intro X hP hw hK hc i pins s σ H E I hf st hg
    subst hP hw hK
    obtain ⟨f0, f1, f2, f3, f4, f5⟩ := hf it (by simp)
    have W := Walks.range (prog := X.prog) (w := X.w) (I.ok.hd hc) it lo 1 n
    refine W.item i s _ _ hg st fun v h' tk hv st' kk => ?_
    obtain ⟨t, rfl⟩ := hv
    have I1 : Inv X pins σ H { s with heap := h', toks := tk } := I.turned (fun b o hb e => kk b o (by simpa using hb) e) f0 f1 f3 f4 f5
    refine ⟨_, rfl, zp8 (s := { s with heap := h', toks := tk }) (n := "range_iterator") st' rfl rfl (by decide) ⟨.int (lo + i), H, I1, ⟨t, ?_⟩, ⟨rfl, rfl⟩, st', fun b hb => (hf b hb).1⟩⟩
    rw [Int.mul_one]
  done := by
    intro X hP hw hK hc i pins s σ H E I hf st hg
    subst hP hw hK
    obtain ⟨f0, f1, f2, f3, f4, f5⟩ := hf it (by simp)
    exact wpAny_pyNext_range_end (I.ok.hd hc) st (by have : n ≤ i := hg; omega) fun h' eb => ⟨rfl, I.turned (t' := s.toks) (fun b o hb e => eb b o hb e) f0 f1 f3 f4 f5⟩
  self := fun _ _ _ _ _ st h => wpAny_pyIter_rangeiter st h
end L2
namespace L2
open PySem PySem.Spec PyProof.Rows
section
variable {X : Cx} {tg : Expr}
theorem zkh {pins : List (Addr × Obj)} {σ : St} {H : Hp} {s : Shared} {R : It → Hp → Prop} {E : Value → Shared → Prop} {lo hi : Int} {t u v : Tok} {tk : Nat} (I : Inv X pins σ H s) (h1 : -(2 ^ 62) ≤ lo) (h2 : lo < 2 ^ 62) (h3 : -(2 ^ 62) ≤ hi) (h4 : hi < 2 ^ 62)
    (q : R (Itr lo (hi - lo).toNat) H) : wpAny (model X.prog X.w) X.A (pyIter (.ref s.heap.objs.size)) (PIE X pins σ tg R) E { s with heap := s.heap.push { cls := .type "range", data := .fields #[.int lo t, .int hi u, .int 1 v] }, toks := tk } := by
  refine wpAny_pyIter_range (IsRange.new ..) (small_one h1 h2 h3 h4) ?_
  have I1 : Inv X pins σ H { s with heap := s.heap.push { cls := .type "range", data := .fields #[.int lo t, .int hi u, .int 1 v] }, toks := tk } := I.kept fun b o e => Heap.get?_push_of_some _ e
  refine ⟨(s.heap.push { cls := .type "range", data := .fields #[.int lo t, .int hi u, .int 1 v] }).objs.size, [(s.heap.push { cls := .type "range", data := .fields #[.int lo t, .int hi u, .int 1 v] }).objs.size], _, _, H, rfl,
    I1.kept (t' := tk) fun b o e => Heap.get?_push_of_some _ e, zlf _ lo (hi - lo).toNat, ?_, fun b hb => ?_, q⟩
  · have e1 : lo + ((0 : Nat) : Int) * 1 = lo := by simp
    have e2 : (((hi - lo).toNat : Nat) : Int) - ((0 : Nat) : Int) = Builtin.Range.rangeSize lo hi 1 := by rw [rangeSize_one]; split <;> omega
    show IsRangeIter _ _ (lo + ((0 : Nat) : Int) * 1) ((((hi - lo).toNat : Nat) : Int) - ((0 : Nat) : Int)) 1
    rw [e1, e2]
    exact Heap.get?_push_size _ rfl
  · have e : b = (s.heap.push { cls := .type "range", data := .fields #[.int lo t, .int hi u, .int 1 v] }).objs.size := by simpa using hb
    subst e
    exact I1.fpOk (Nat.le_refl _) (I1.hok.fresh (Nat.le_refl _))
noncomputable def zvP (ta : TA) : TI := fun σ H R => ta σ H fun vs H1 => ∃ j : Int, vs = [.int j] ∧ -(2 ^ 62) ≤ j ∧ j < 2 ^ 62 ∧ R (Itr 0 j.toNat) H1
noncomputable def zvQ (ta : TA) : TI := fun σ H R => ta σ H fun vs H1 => ∃ i j : Int, vs = [.int i, .int j] ∧ (-(2 ^ 62) ≤ i ∧ i < 2 ^ 62 ∧ -(2 ^ 62) ≤ j ∧ j < 2 ^ 62) ∧ R (Itr i (j - i).toNat) H1
theorem zlZ {a : Expr} {ta : TA} {p pos : Pos} (hg : Gl X "range") (hm : X.mg "range" = none) (ha : PA X [a] ta) (hs : starEach [a] X.env = [(false, eval a X.env)] := by rfl) : PI X tg (.Call (.Name "range" p) [a] [] pos) (zvP ta) := by
  intro pins s σ H R I h
  refine Call_ (zh0 I hg hm boot_range (PyProof.Rows.callWith_type1 (thn (ha pos pins s σ H _ I h) fun us s1 ⟨vs, H1, I1, r1, q1⟩ => ?_) hs rfl))
  obtain ⟨j, e, q1, q2, q⟩ := q1
  subst e
  cases r1 with
  | cons r rr =>
    cases rr
    obtain ⟨t, rfl⟩ := r
    exact call_range_1 (zkh I1 (by omega) (by omega) q1 q2 (by simpa using q))
theorem zl0 {a b : Expr} {ta : TA} {p pos : Pos} (hg : Gl X "range") (hm : X.mg "range" = none) (ha : PA X [a, b] ta) (hs : starEach [a, b] X.env = [(false, eval a X.env), (false, eval b X.env)] := by rfl) (hs2 : starEach [b] X.env = [(false, eval b X.env)] := by rfl) :
    PI X tg (.Call (.Name "range" p) [a, b] [] pos) (zvQ ta) := by
  intro pins s σ H R I h
  refine Call_ (zh0 I hg hm boot_range (PyProof.Rows.callWith_type1 (thn (ha pos pins s σ H _ I h) fun us s1 ⟨vs, H1, I1, r1, q1⟩ => ?_) (by rw [hs, hs2]) (by rw [hs2]; rfl)))
  obtain ⟨i, j, e, ⟨q1, q2, q3, q4⟩, q⟩ := q1
  subst e
  cases r1 with
  | cons r rr =>
    cases rr with
    | cons r' rr =>
      cases rr
      obtain ⟨t, rfl⟩ := r
      obtain ⟨t', rfl⟩ := r'
      exact call_range_2 (zkh I1 q1 q2 q3 q4 q)
noncomputable def tFor (wi : TI) (g : TG) (tb : TS) : TS := fun D σ H => wi σ H fun J H1 => ∃ W : Nat → Nat → St → Hp → Prop, (∃ m, W 0 m σ H1) ∧ ∀ i m σ H, W i m σ H →
  (J.stop i H ∧ D.nx σ H) ∨ (J.go i H ∧ ∃ N : St → Hp → Prop, (∀ σ' H', N σ' H' → ∃ m', m' < m ∧ W (i + 1) m' σ' H') ∧ ∀ x H', J.yld i H x H' → g x σ H' fun σ2 H2 => tb { D with nx := N, ct := N, bk := D.nx } σ2 H2)
noncomputable def zh1 (fp : List Addr) (h : Heap) : List (Addr × Obj) := fp.filterMap fun b => (h.get? b).map fun o => (b, o)
theorem zcW {fp : List Addr} {h : Heap} {b : Addr} {o : Obj} (hb : b ∈ fp) (e : h.get? b = some o) : (b, o) ∈ zh1 fp h := List.mem_filterMap.mpr ⟨b, hb, by rw [e]; rfl⟩
theorem zl1 {fp : List Addr} {h : Heap} {p : Addr × Obj} (hp : p ∈ zh1 fp h) : p.1 ∈ fp ∧ h.get? p.1 = some p.2 := by
  obtain ⟨b, hb, e⟩ := List.mem_filterMap.mp hp
  cases q : h.get? b with
  | none => rw [q] at e; cases e
  | some o =>
    rw [q] at e
    have e' : (b, o) = p := Option.some.inj e
    subst e'
    exact ⟨hb, q⟩
theorem Inv.pinned {pins : List (Addr × Obj)} {σ : St} {H : Hp} {s : Shared} {fp : List Addr} (I : Inv X pins σ H s) (hf : ∀ b ∈ fp, FpOk X pins H b) (ho : ∀ b ∈ fp, ∃ o, s.heap.get? b = some o ∧ ∀ v, o.data ≠ .cell v) : Inv X (pins ++ zh1 fp s.heap) σ H s :=
  I.pins_of fun p hp => (List.mem_append.mp hp).elim (fun z => I.pin p (List.mem_append_right _ z)) fun z => by
    obtain ⟨hb, e⟩ := zl1 z
    obtain ⟨f0, f1, f2, _⟩ := hf p.1 hb
    obtain ⟨o, e', d⟩ := ho p.1 hb
    rw [e] at e'; cases e'
    exact ⟨e, f0, f1, f2, d⟩
theorem Inv.unpinned {pins pl : List (Addr × Obj)} {σ : St} {H : Hp} {s : Shared} (I : Inv X (pins ++ pl) σ H s) : Inv X pins σ H s := I.pins_of fun p hp => I.pin p (List.mem_append_right _ (List.mem_append_left _ hp))
theorem zps {iter : Expr} {body : List Stmt} {wi : TI} {g : TG} {tb : TS} {pos : Pos} (hp : PassesOwn (model X.prog X.w) X.A X.env X.xe) (hc : X.calm = true) (hi : PI X tg iter wi) (hg : PG X tg g) (hb : PSs X body tb)
    (hs : ∀ x, foldedSetIterable iter X.env x = pure x := by intro _; rfl) : PS X (.For tg iter body [] pos) (tFor wi g tb) := by
  intro pins s σ H D I h
  refine wpAny_For (thn (hi pins s σ H _ I h) fun v s1 h1 => thn h1 fun itv s2 h2 => ?_) hs
  obtain ⟨it, fp, tn, J, H2, e, I2, T, st2, f2, W, ⟨m0, w0⟩, turn⟩ := h2
  subst e
  have stat : ∀ {H' : Hp}, (∀ b ∈ fp, H' b = none) → ∀ b ∈ fp, FpOk X pins H' b := fun hn b hb => ⟨hn b hb, (f2 b hb).2⟩
  refine codeAny_forLoop_any (fun n s' => ∃ i σ' H', Inv X pins σ' H' s' ∧ tn i s'.heap ∧ (∀ b ∈ fp, H' b = none) ∧ W i n σ' H') ?_ m0 ⟨0, σ, H2, I2, st2, fun b hb => (f2 b hb).1, w0⟩
  rintro n s3 ⟨i, σ3, H3, I3, st3, fr3, w3⟩
  rcases turn i n σ3 H3 w3 with ⟨stop, qn⟩ | ⟨go, N, hN, step⟩
  · refine wpAny_passesOwn hp (thn (T.done X rfl rfl rfl hc i pins s3 σ3 H3 X.xe I3 (stat fr3) st3 stop) fun r s4 ⟨hr, I4⟩ => ?_)
    subst hr
    exact wpAny_execs_nil ⟨σ3, H3, I4, qn⟩
  · refine wpAny_passesOwn hp (thn (T.item X rfl rfl rfl hc i pins s3 σ3 H3 X.xe I3 (stat fr3) st3 go) fun r s4 ⟨u, hr, h4⟩ => ?_)
    subst hr
    refine wpAny_passesOwn hp (thn h4 fun _ s5 ⟨x, H5, I5, r5, y5, st5, fr5⟩ => ?_)
    have I5' := I5.pinned (stat fr5) (T.obj _ _ st5)
    refine wpAny_passesOwn hp (thn (hg _ s5 σ3 H5 x u _ I5' r5 (step x H5 y5)) fun _ s6 ⟨σ6, H6, I6, q6⟩ => ?_)
    refine wpAny_passesOwn hp (thn (hb _ s6 σ6 H6 _ I6 q6) fun f s7 q7 => ?_)
    have again : ∀ {σ7 : St} {H7 : Hp}, Inv X (pins ++ zh1 fp s5.heap) σ7 H7 s7 → N σ7 H7 → ∃ m, m < n ∧ ∃ i σ' H', Inv X pins σ' H' s7 ∧ tn i s7.heap ∧ (∀ b ∈ fp, H' b = none) ∧ W i m σ' H' := fun {σ7 H7} I7 n7 => by
      obtain ⟨m', hm, w7⟩ := hN σ7 H7 n7
      refine ⟨m', hm, i + 1, σ7, H7, I7.unpinned, T.keep _ _ _ st5 fun b hb o e => (I7.pin (b, o) (List.mem_append_right _ (List.mem_append_right _ (zcW hb e)))).1, fun b hb => ?_, w7⟩
      obtain ⟨o, e, d⟩ := T.obj _ _ st5 b hb
      exact (I7.pin (b, o) (List.mem_append_right _ (List.mem_append_right _ (zcW hb e)))).2.1
    cases f with
    | next => obtain ⟨σ7, H7, I7, n7⟩ := q7; exact again I7 n7
    | cont => obtain ⟨σ7, H7, I7, n7⟩ := q7; exact again I7 n7
    | brk => obtain ⟨σ7, H7, I7, q7⟩ := q7; exact ⟨σ7, H7, I7.unpinned, q7⟩
    | ret v => obtain ⟨x7, σ7, H7, I7, r7, q7⟩ := q7; exact ⟨x7, σ7, H7, I7.unpinned, r7, q7⟩
end
end L2
namespace L2
open PySem PySem.Spec PyProof.Rows
noncomputable abbrev R2 := V → V → Hp → VK → Prop
noncomputable def OpR (X : Cx) (f : Value → Value → Sem Value) (r : R2) : Prop :=
  ∀ (pins : List (Addr × Obj)) (s : Shared) (σ : St) (H : Hp) (x y : V) (v u : Value) (Q : VK), Inv X pins σ H s → RelV x v → RelV y u → r x y H Q →
    wpAny (model X.prog X.w) X.A (f v u) (EP X pins σ Q) X.xe s
noncomputable def UnR (X : Cx) (f : Value → Sem Value) (r : V → Hp → VK → Prop) : Prop :=
  ∀ (pins : List (Addr × Obj)) (s : Shared) (σ : St) (H : Hp) (x : V) (v : Value) (Q : VK), Inv X pins σ H s → RelV x v → r x H Q →
    wpAny (model X.prog X.w) X.A (f v) (EP X pins σ Q) X.xe s
noncomputable def CallR (X : Cx) (f : Value) (r : List V → Hp → VK → Prop) : Prop :=
  ∀ (pins : List (Addr × Obj)) (s : Shared) (σ : St) (H : Hp) (xs : List V) (us : List Value) (Q : VK), Inv X pins σ H s → Vals xs us → r xs H Q →
    wpAny (model X.prog X.w) X.A (call f us) (EP X pins σ Q) X.xe s
noncomputable def TruR (X : Cx) (r : V → Hp → (Bool → Hp → Prop) → Prop) : Prop :=
  ∀ (pins : List (Addr × Obj)) (s : Shared) (σ : St) (H : Hp) (x : V) (v : Value) (Q : Bool → Hp → Prop), Inv X pins σ H s → RelV x v → r x H Q →
    wpAny (model X.prog X.w) X.A (truthy v) (TP X pins σ Q) X.xe s
noncomputable def tOp (r : R2) (ta tb : TE) : TE := fun σ H Q => ta σ H fun x H1 => tb σ H1 fun y H2 => r x y H2 Q
noncomputable def tUn (r : V → Hp → VK → Prop) (ta : TE) : TE := fun σ H Q => ta σ H fun x H1 => r x H1 Q
noncomputable def rI (C : Int → Int → Prop) (g : Int → Int → V) : R2 := fun x y H Q => ∃ i j, x = .int i ∧ y = .int j ∧ C i j ∧ Q (g i j) H
noncomputable def rI0 (g : Int → Int → V) : R2 := fun x y H Q => ∃ i j, x = .int i ∧ y = .int j ∧ Q (g i j) H
noncomputable def rU (g : Int → V) : V → Hp → VK → Prop := fun x H Q => ∃ i, x = .int i ∧ Q (g i) H
section
variable {X : Cx} {a b c : Expr} {ta tb tc : TE} {pos : Pos}
theorem binT (ha : PE X a ta) (hb : PE X b tb) {pins : List (Addr × Obj)} {s : Shared} {σ : St} {H : Hp} {R : V → V → Hp → Prop} (I : Inv X pins σ H s)
    (h : ta σ H fun x H1 => tb σ H1 fun y H2 => R x y H2) {Q : Value → Shared → Prop} {f : Value → Value → Sem Value}
    (hf : ∀ v u s2 x y H2, Inv X pins σ H2 s2 → RelV x v → RelV y u → R x y H2 → wpAny (model X.prog X.w) X.A (f v u) Q X.xe s2) :
    wpAny (model X.prog X.w) X.A (eval a X.env) (fun v s₁ => wpAny (model X.prog X.w) X.A (eval b X.env) (fun u s₂ => wpAny (model X.prog X.w) X.A (f v u) Q X.xe s₂) X.xe s₁) X.xe s := by
  refine thn (ha pins s σ H _ I h) fun v s1 ⟨x, H1, I1, r1, q1⟩ => ?_
  refine thn (hb pins s1 σ H1 _ I1 q1) fun u s2 ⟨y, H2, I2, r2, q2⟩ => ?_
  exact hf v u s2 x y H2 I2 r1 r2 q2
theorem zvR {op : Operator} {r : R2} (ho : OpR X (binaryOp op) r) (ha : PE X a ta) (hb : PE X b tb) : PE X (.BinOp a op b pos) (tOp r ta tb) := by
  intro pins s σ H Q I h
  exact wpAny_BinOp (binT ha hb I h fun v u s2 x y H2 I2 rx ry q => ho pins s2 σ H2 x y v u Q I2 rx ry q)
theorem zvS {op : UnaryOp} {r : V → Hp → VK → Prop} (ho : UnR X (unaryOp op) r) (ha : PE X a ta) : PE X (.UnaryOp op a pos) (tUn r ta) := by
  intro pins s σ H Q I h
  exact UnaryOp_ (thn (ha pins s σ H _ I h) fun v s1 ⟨x, H1, I1, r1, q1⟩ => ho pins s1 σ H1 x v Q I1 r1 q1)
theorem opI {f : Value → Value → Sem Value} {C : Int → Int → Prop} {g : Int → Int → Int}
    (rule : ∀ (i j : Int) (t u : Tok) (s : Shared) (Q : Value → Shared → Prop) (E : Value → Shared → Prop), C i j → Q (.int (g i j) s.toks) { s with toks := s.toks + 1 } → wpAny (model X.prog X.w) X.A (f (.int i t) (.int j u)) Q E s) :
    OpR X f (rI C fun i j => .int (g i j)) := by
  intro pins s σ H x y v u Q I rx ry h
  obtain ⟨i, j, rfl, rfl, hc, q⟩ := h
  obtain ⟨t, rfl⟩ := rx
  obtain ⟨t', rfl⟩ := ry
  exact rule i j t t' s _ _ hc ⟨.int (g i j), H, I.tok _, ⟨_, rfl⟩, q⟩
theorem opI0 {f : Value → Value → Sem Value} {g : Int → Int → Int}
    (rule : ∀ (i j : Int) (t u : Tok) (s : Shared) (Q : Value → Shared → Prop) (E : Value → Shared → Prop), Q (.int (g i j) s.toks) { s with toks := s.toks + 1 } → wpAny (model X.prog X.w) X.A (f (.int i t) (.int j u)) Q E s) :
    OpR X f (rI0 fun i j => .int (g i j)) := by
  intro pins s σ H x y v u Q I rx ry h
  obtain ⟨i, j, rfl, rfl, q⟩ := h
  obtain ⟨t, rfl⟩ := rx
  obtain ⟨t', rfl⟩ := ry
  exact rule i j t t' s _ _ ⟨.int (g i j), H, I.tok _, ⟨_, rfl⟩, q⟩
theorem opB0 {f : Value → Value → Sem Value} {g : Int → Int → Bool}
    (rule : ∀ (i j : Int) (t u : Tok) (s : Shared) (Q : Value → Shared → Prop) (E : Value → Shared → Prop), Q (.bool (g i j)) s → wpAny (model X.prog X.w) X.A (f (.int i t) (.int j u)) Q E s) :
    OpR X f (rI0 fun i j => .bl (g i j)) := by
  intro pins s σ H x y v u Q I rx ry h
  obtain ⟨i, j, rfl, rfl, q⟩ := h
  obtain ⟨t, rfl⟩ := rx
  obtain ⟨t', rfl⟩ := ry
  exact rule i j t t' s _ _ ⟨.bl (g i j), H, I, rfl, q⟩
noncomputable def CDiv (i j : Int) : Prop := 0 < j ∧ j < 1073741824
noncomputable def CMul (i j : Int) : Prop := (-(2 ^ 64) < i ∧ i < 2 ^ 64) ∨ (-(2 ^ 64) < j ∧ j < 2 ^ 64)
theorem CMul.ok {i j : Int} (h : CMul i j) : IntMulOk i j := by
  rcases h with ⟨h1, h2⟩ | ⟨h1, h2⟩
  · exact .of_left (intBits_le_64 h1 h2)
  · exact .of_right (intBits_le_64 h1 h2)
theorem zr0 : OpR X (binaryOp .Add) (rI0 fun i j => .int (i + j)) := opI0 fun _ _ _ _ _ _ _ q => add_int q
theorem zr1 : OpR X (binaryOp .Sub) (rI0 fun i j => .int (i - j)) := opI0 fun _ _ _ _ _ _ _ q => sub_int q
theorem zr2 : OpR X (binaryOp .Mult) (rI CMul fun i j => .int (i * j)) := opI fun _ _ _ _ _ _ _ hc q => mul_int q hc.ok
theorem zp9 : OpR X (binaryOp .FloorDiv) (rI CDiv fun i j => .int (i / j)) := opI fun i j _ _ _ _ _ hc q => by
  have h1 : (0 : Int) < j := hc.1
  have h2 : j < 1073741824 := hc.2
  exact floordiv_int (by omega) (by rw [Int.fdiv_eq_ediv_of_nonneg i (by omega)]; exact q) (.inl (PyProof.noPylong_small (by omega)))
theorem zr3 : OpR X (binaryOp .Mod) (rI (fun _ j => 0 < j) fun i j => .int (i % j)) := opI fun i j _ _ _ _ _ hc q => by
  have h1 : (0 : Int) < j := hc
  exact mod_int' (by omega) (by rw [Int.fmod_eq_emod_of_nonneg i (by omega)]; exact q)
theorem unI {f : Value → Sem Value} {g : Int → Int}
    (rule : ∀ (i : Int) (t : Tok) (s : Shared) (Q : Value → Shared → Prop) (E : Value → Shared → Prop), Q (.int (g i) s.toks) { s with toks := s.toks + 1 } → wpAny (model X.prog X.w) X.A (f (.int i t)) Q E s) :
    UnR X f (rU fun i => .int (g i)) := by
  intro pins s σ H x v Q I rx h
  obtain ⟨i, rfl, q⟩ := h
  obtain ⟨t, rfl⟩ := rx
  exact rule i t s _ _ ⟨.int (g i), H, I.tok _, ⟨_, rfl⟩, q⟩
theorem zr4 : UnR X (unaryOp .USub) (rU fun i => .int (-i)) := unI fun _ _ _ _ _ q => neg_int q
end
section
variable {X : Cx} {a b c : Expr} {ta tb tc : TE} {pos : Pos}
theorem zvT : OpR X (compareOp .Lt) (rI0 fun i j => .bl (decide (i < j))) := opB0 fun _ _ _ _ _ _ _ q => lt_int q
theorem zvU : OpR X (compareOp .LtE) (rI0 fun i j => .bl (decide (i ≤ j))) := opB0 fun _ _ _ _ _ _ _ q => le_int q
theorem zvV : OpR X (compareOp .Gt) (rI0 fun i j => .bl (decide (j < i))) := opB0 fun _ _ _ _ _ _ _ q => gt_int q
theorem OpR.or {f : Value → Value → Sem Value} {r r' : R2} (h : OpR X f r) (h' : OpR X f r') : OpR X f (fun x y H Q => r x y H Q ∨ r' x y H Q) := by
  intro pins s σ H x y v u Q I rx ry q
  rcases q with q | q
  · exact h pins s σ H x y v u Q I rx ry q
  · exact h' pins s σ H x y v u Q I rx ry q
theorem zbz (b : Expr) {op : CmpOp} (h : op ≠ .In := by decide) (h2 : op ≠ .NotIn := by decide) : behindInMarks op b = false := by
  have e1 : (op == CmpOp.In) = false := by cases op <;> first | rfl | exact absurd rfl h
  have e2 : (op == CmpOp.NotIn) = false := by cases op <;> first | rfl | exact absurd rfl h2
  cases b <;> simp [behindInMarks, e1, e2]
theorem zqa {op : CmpOp} {r : R2} (ho : OpR X (compareOp op) r) (ha : PE X a ta) (hb : PE X b tb) (hm : behindInMarks op b = false) : PE X (.Compare a [op] [b] pos) (tOp r ta tb) := by
  intro pins s σ H Q I h
  exact wpAny_Compare1 (binT ha hb I h fun v u s2 x y H2 I2 rx ry q => ho pins s2 σ H2 x y v u Q I2 rx ry q) hm
noncomputable def zr5 (t : TE) : TT := fun σ H Q => t σ H fun x H' => ∃ k, x = .bl k ∧ Q k H'
theorem zqb {op : CmpOp} {r : R2} (ho : OpR X (compareOp op) r) (ha : PE X a ta) (hb : PE X b tb) (hm : behindInMarks op b = false) : PT X (.Compare a [op] [b] pos) (zr5 (tOp r ta tb)) := by
  intro pins s σ H Q I h
  refine wpAny_isTrue_Compare1 (thn (ha pins s σ H _ I h) fun v s1 ⟨x, H1, I1, r1, q1⟩ => thn (hb pins s1 σ H1 _ I1 q1) fun u s2 ⟨y, H2, I2, r2, q2⟩ =>
    thn (ho pins s2 σ H2 x y v u _ I2 r1 r2 q2) fun c s3 ⟨z, H3, I3, r3, k, e, q3⟩ => ?_) hm
  subst e
  cases r3
  exact wpAny_truthy_bool ⟨H3, I3, q3⟩
noncomputable def zpt (r r' : R2) (ta tb tc : TE) : TE := fun σ H Q => ta σ H fun x H1 => tb σ H1 fun y H2 => r x y H2 fun z H3 => ∃ k, z = .bl k ∧
  (if k = true then tc σ H3 fun w' H4 => r' y w' H4 Q else Q (.bl false) H3)
theorem zn0 {op op' : CmpOp} {r r' : R2} (ho : OpR X (compareOp op) r) (ho' : OpR X (compareOp op') r') (ha : PE X a ta) (hb : PE X b tb) (hc : PE X c tc)
    (hm : lastMarks [op, op'] [b, c] = false := by with_unfolding_all rfl) : PE X (.Compare a [op, op'] [b, c] pos) (zpt r r' ta tb tc) := by
  intro pins s σ H Q I h
  refine Compare_chain (thn (ha pins s σ H _ I h) fun v s1 ⟨x, H1, I1, r1, q1⟩ => chain_link (thn (hb pins s1 σ H1 _ I1 q1) fun u s2 ⟨y, H2, I2, r2, q2⟩ =>
    thn (ho pins s2 σ H2 x y v u _ I2 r1 r2 q2) fun d s3 ⟨z, H3, I3, r3, k, e, q3⟩ => ?_)) hm
  subst e
  cases r3
  refine wpAny_truthy_bool ?_
  cases k with
  | false => exact ite_ff ⟨.bl false, H3, I3, rfl, q3⟩
  | true => exact ite_tt (chain_last (thn (hc pins s3 σ H3 _ I3 q3) fun w' s4 ⟨z', H4, I4, r4, q4⟩ => ho' pins s4 σ H4 y z' u w' Q I4 r2 r4 q4))
theorem zn1 {op op' : CmpOp} {r r' : R2} (ho : OpR X (compareOp op) r) (ho' : OpR X (compareOp op') r') (ha : PE X a ta) (hb : PE X b tb) (hc : PE X c tc)
    (hm : lastMarks [op, op'] [b, c] = false := by with_unfolding_all rfl) : PT X (.Compare a [op, op'] [b, c] pos) (zr5 (zpt r r' ta tb tc)) := by
  intro pins s σ H Q I h
  refine isTrue_chain (thn (ha pins s σ H _ I h) fun v s1 ⟨x, H1, I1, r1, q1⟩ => test_link (thn (hb pins s1 σ H1 _ I1 q1) fun u s2 ⟨y, H2, I2, r2, q2⟩ =>
    thn (ho pins s2 σ H2 x y v u _ I2 r1 r2 q2) fun d s3 ⟨z, H3, I3, r3, k, e, q3⟩ => ?_)) hm
  subst e
  cases r3
  refine wpAny_truthy_bool ?_
  cases k with
  | false =>
    obtain ⟨k', e', q'⟩ := q3
    cases e'
    exact ite_ff ⟨H3, I3, q'⟩
  | true =>
    refine ite_tt (test_last (thn (hc pins s3 σ H3 _ I3 q3) fun w' s4 ⟨z', H4, I4, r4, q4⟩ => thn (ho' pins s4 σ H4 y z' u w' _ I4 r2 r4 q4) fun d' s5 ⟨z2, H5, I5, r5, k2, e2, q5⟩ => ?_))
    subst e2
    cases r5
    exact wpAny_truthy_bool ⟨H5, I5, q5⟩
noncomputable def TruV (K : PySem.W.Frag) (x : V) (H : Hp) (k : Bool) : Prop :=
  match x with
  | .non => k = false
  | .bl b => k = b
  | .int i => k = (i != 0)
  | .str y => y.length ≤ sizeLine ∧ k = ((y.length : Int) != 0)
  | .byt y => y.size ≤ sizeLine ∧ k = ((y.size : Int) != 0)
  | .ref p => (∃ xs, SqL K H p xs ∧ k = !xs.isEmpty) ∨ (∃ xs, SqT K H p xs ∧ k = !xs.isEmpty) ∨ ∃ kvs, H p = some (.dK kvs) ∧ k = !kvs.isEmpty
  | _ => False
theorem zlg {κ : Type} {kvs : List (κ × V)} {vs : List (κ × Value)} (r : KV kvs vs) : (!vs.isEmpty) = !kvs.isEmpty := by
  cases r <;> rfl
theorem zgs {xs : List V} {its : List Value} (r : Vals xs its) : (!its.toArray.isEmpty) = !xs.isEmpty := by
  cases r <;> simp
theorem zki : (sizeLine : Nat) < 2 ^ 63 := by rw [sizeLine_eq]; decide
theorem zr6 : TruR X (fun x H Q => ∃ k, TruV X.K x H k ∧ Q k H) := by
  intro pins s σ H x v Q I rx h
  obtain ⟨k, e, q⟩ := h
  have hl := zki
  have hs : sizeLine = 16777216 := sizeLine_eq
  cases x with
  | non =>
    cases rx
    have e' : k = false := e
    subst e'
    exact truthy_none ⟨H, I, q⟩
  | bl b =>
    cases rx
    have e' : k = b := e
    subst e'
    exact wpAny_truthy_bool ⟨H, I, q⟩
  | int i =>
    obtain ⟨t, rfl⟩ := rx
    have e' : k = (i != 0) := e
    subst e'
    exact PySem.P.truthy_int ⟨H, I, q⟩
  | str y =>
    obtain ⟨t, rfl⟩ := rx
    obtain ⟨hy, e'⟩ : y.length ≤ sizeLine ∧ k = ((y.length : Int) != 0) := e
    subst e'
    exact PySem.P.truthy_str (by omega) ⟨H, I.tok _, q⟩
  | byt y =>
    obtain ⟨t, rfl⟩ := rx
    obtain ⟨hy, e'⟩ : y.size ≤ sizeLine ∧ k = ((y.size : Int) != 0) := e
    subst e'
    exact PySem.W.truthy_bytes (by omega) ⟨H, I.tok _, q⟩
  | ref p =>
    cases rx
    have e' : (∃ xs, SqL X.K H p xs ∧ k = !xs.isEmpty) ∨ (∃ xs, SqT X.K H p xs ∧ k = !xs.isEmpty) ∨ ∃ kvs, H p = some (.dK kvs) ∧ k = !kvs.isEmpty := e
    rcases e' with ⟨xs, hx, e'⟩ | ⟨xs, hx, e'⟩ | ⟨kvs, hx, e'⟩
    · subst e'
      obtain ⟨its, r, pl, hz⟩ := I.list hx
      have hlen := r.length
      exact wpAny_truthy_list pl.isList (by simp only [List.size_toArray]; omega) ⟨H, I.tok _, by rw [zgs r]; exact q⟩
    · subst e'
      obtain ⟨its, r, pl, hz⟩ := I.tuple hx
      have hlen := r.length
      exact truthy_tuple pl (by simp only [List.size_toArray]; omega) ⟨H, I.tok _, by rw [zgs r]; exact q⟩
    · subst e'
      obtain ⟨hz, hS, vs, r, m⟩ : kvs.length ≤ sizeLine ∧ (p == sysModules) = false ∧ ∃ vs, KV kvs vs ∧ s.heap.DictOf (zav X.prog X.w) p vs := I.hok p _ hx
      have hlen : kvs.length = vs.length := Paired.length r
      exact wpAny_truthy_dict hS m (by omega) ⟨H, I.tok _, by rw [zlg r]; exact q⟩
  | _ => exact (show False from e).elim
theorem zn2 (ha : PE X a ta) (he : ∀ whole, isTrue a X.env whole = (do let v ← whole; standAt a.pos; holding [v] (truthy v))) :
    PT X a (fun σ H Q => ta σ H fun x H' => ∃ k, TruV X.K x H' k ∧ Q k H') := by
  intro pins s σ H Q I h
  exact isTrue_plain (thn (ha pins s σ H _ I h) fun v s1 ⟨x, H1, I1, r1, q1⟩ => zr6 pins s1 σ H1 x v Q I1 r1 q1) (he _)
theorem zf3 {x : V} {us : List Value} (r : Vals [x] us) : ∃ u, us = [u] ∧ RelV x u := by
  cases r with
  | cons r1 r2 => cases r2; exact ⟨_, rfl, r1⟩
theorem zqc {x y : V} {us : List Value} (r : Vals [x, y] us) : ∃ u w', us = [u, w'] ∧ RelV x u ∧ RelV y w' := by
  cases r with
  | cons r1 r2 =>
    cases r2 with
    | cons r3 r4 => cases r4; exact ⟨_, _, rfl, r1, r3⟩
theorem zn3 : CallR X (.builtin "abs") (fun xs H Q => ∃ i, xs = [.int i] ∧ Q (.int (if i < 0 then -i else i)) H) := by
  intro pins s σ H xs us Q I r h
  obtain ⟨i, rfl, q⟩ := h
  obtain ⟨u, rfl, t, rfl⟩ := zf3 r
  exact call_abs_int fun u tk => ⟨.int (if i < 0 then -i else i), H, I.tok _, ⟨_, rfl⟩, q⟩
theorem zl2 (hc : X.calm = true) : CallR X (.builtin "max") (fun xs H Q => ∃ i j, xs = [.int i, .int j] ∧ Q (.int (if j > i then j else i)) H) := by
  intro pins s σ H xs us Q I r h
  obtain ⟨i, j, rfl, q⟩ := h
  obtain ⟨u, w', rfl, ⟨t, rfl⟩, ⟨t', rfl⟩⟩ := zqc r
  refine max_two_ints (I.ok.hd hc) fun h' tk k => ⟨_, H, I.kept k, ?_, q⟩
  by_cases hj : j > i
  · rw [if_pos hj, if_pos hj]; exact ⟨_, rfl⟩
  · rw [if_neg hj, if_neg hj]; exact ⟨_, rfl⟩
theorem zl3 (hc : X.calm = true) : CallR X (.builtin "min") (fun xs H Q => ∃ i j, xs = [.int i, .int j] ∧ Q (.int (if j < i then j else i)) H) := by
  intro pins s σ H xs us Q I r h
  obtain ⟨i, j, rfl, q⟩ := h
  obtain ⟨u, w', rfl, ⟨t, rfl⟩, ⟨t', rfl⟩⟩ := zqc r
  refine min_two_ints (I.ok.hd hc) fun h' tk k => ⟨_, H, I.kept k, ?_, q⟩
  by_cases hj : j < i
  · rw [if_pos hj, if_pos hj]; exact ⟨_, rfl⟩
  · rw [if_neg hj, if_neg hj]; exact ⟨_, rfl⟩
end
end L2
namespace L2
open PySem PySem.Spec PyProof.Rows
structure ObjM (h : Heap) (x dx C : Addr) (mA : Str → Option Value) : Prop where
  obj : h.get? x = some (PySem.W.instObj C dx)
  ns : h.Ns1 dx mA
  ne : dx ≠ x
theorem zl4 {h : Heap} {dx : Addr} {mA : Str → Option Value} (n : h.Ns1 dx mA) : ∃ od, h.get? dx = some od ∧ ∀ name, PySem.W.lookIn name od = some (mA name) := by
  obtain ⟨o, es, ep, ho, hd, hk, _, hm⟩ := n
  refine ⟨o, ho, fun name => ?_⟩
  have e := hm name
  unfold nsFind findBy at e
  rw [← Array.find?_toList] at e
  unfold PySem.W.lookIn
  rw [hd]
  dsimp only
  split
  · rename_i y q
    rw [q] at e
    exact congrArg some e
  · rename_i q
    rw [q] at e
    have a : es.toList.any (·.refKey) = false := by
      rw [List.any_eq_false]
      intro y hy
      obtain ⟨z, t, hkey⟩ := hk y (Array.mem_toList_iff.mp hy)
      simp [DictEntry.refKey, hkey]
    have a' : ¬ es.toList.any (·.refKey) = true := by rw [a]; exact Bool.false_ne_true
    rw [if_neg a']
    exact congrArg some e
theorem ObjM.look {h : Heap} {x dx C : Addr} {mA : Str → Option Value} (I : ObjM h x dx C mA) : ∃ od, PySem.W.InstAt h x (PySem.W.instObj C dx) C (some od) ∧ ∀ name, PySem.W.lookIn name od = some (mA name) :=
  let ⟨od, ho, hl⟩ := zl4 I.ns
  ⟨od, ⟨I.obj, rfl, rfl, ho⟩, hl⟩
theorem RelO.some_of {v : V} {o : Option Value} (r : RelO (some v) o) : ∃ u, o = some u ∧ RelV v u := by
  cases o with
  | none => exact (show False from r).elim
  | some u => exact ⟨u, rfl, r⟩
structure Cls (K : PySem.W.Frag) (C : Addr) : Prop where
  pg : PySem.W.plainGet K C Str.empty = true
  hd : PySem.W.hasDictIn K C = true
  po : PySem.W.plainOver K C = true
  sa : PySem.W.findIn K (.ref C) "__setattr__" = some (some (.builtin "object.__setattr__"))
theorem Cls.get {K : PySem.W.Frag} {C : Addr} (c : Cls K C) (f : Str) : PySem.W.plainGet K C f = true := c.pg
end L2
namespace L2
open PySem PySem.Spec PyProof.Rows
structure Room (k : Nat) (A : Around) : Prop where
  hd : A.handled = none
  dp : A.depth + 3 * k + 5 < recursionLimit
  un : A.units + 16 * k + 200 < cLine
theorem Room.mono {j k : Nat} {A : Around} (r : Room k A) (h : j ≤ k) : Room j A := ⟨r.hd, by have := r.dp; omega, by have := r.un; omega⟩
theorem Room.deeper {k : Nat} {A : Around} (r : Room (k + 1) A) (env : Env) : Room k (A.deeper env) :=
  ⟨r.hd, by have := r.dp; show A.depth + 1 + 3 * k + 5 < _; omega, by have := r.un; show A.units + 3 + 16 * k + 200 < _; omega⟩
theorem Room.in1 {k : Nat} {A : Around} (r : Room (k + 1) A) : Room k A.in1 :=
  ⟨r.hd, by have := r.dp; show A.depth + 3 * k + 5 < _; omega, by have := r.un; show A.units + 1 + 16 * k + 200 < _; omega⟩
theorem Room.depth {k : Nat} {A : Around} (r : Room k A) : A.depth < recursionLimit := by have := r.dp; omega
theorem Room.units {k : Nat} {A : Around} (r : Room k A) : A.units + 64 < cLine := by have := r.un; omega
noncomputable def tNil : TA := fun _ H Q => Q [] H
noncomputable def zvW (ta : TE) (tr : TA) : TA := fun σ H Q => ta σ H fun x H1 => tr σ H1 fun xs H2 => Q (x :: xs) H2
section
variable {X : Cx} {e : Expr} {es : List Expr} {te : TE} {t : TA} {pos : Pos}
theorem zgt : PA X [] tNil := fun _ _ _ _ H Q I h => Calls.spliced_nil ⟨[], H, I, .nil, h⟩
theorem zcB (ha : PE X e te) (hr : PA X es t) (hs : starEach (e :: es) X.env = (false, eval e X.env) :: starEach es X.env := by rfl) : PA X (e :: es) (zvW te t) := by
  intro pos pins s σ H Q I h
  rw [hs]
  show wpAny _ _ (spliced ((false, eval e X.env) :: backTo pos (starEach es X.env))) _ _ s
  refine Calls.spliced_cons (thn (ha pins s σ H _ I h) fun u s1 ⟨x, H1, I1, r1, q1⟩ => ?_)
  exact thn (hr pos pins s1 σ H1 _ I1 q1) fun us s2 ⟨xs, H2, I2, r2, q2⟩ => ⟨x :: xs, H2, I2, .cons r1 r2, q2⟩
noncomputable def tTup (t : TA) : TE := fun σ H Q => t σ H fun xs H1 => xs.length ≤ sizeLine ∧ ∀ p, H1 p = none → Q (.ref p) (upd H1 p (.tup xs))
noncomputable def tLst (t : TA) : TE := fun σ H Q => t σ H fun xs H1 => xs.length ≤ sizeLine ∧ ∀ p, H1 p = none → Q (.ref p) (upd H1 p (.lst xs))
theorem zr7 {x1} (h : PA X es t) : PE X (.Tuple es x1 pos) (tTup t) := by
  intro pins s σ H Q I hq
  refine wpAny_Tuple_spliced (thn (h pos pins s σ H _ I hq) fun us s1 ⟨xs, H1, I1, r, z, q⟩ => ⟨by rw [← r.length]; exact z, ?_⟩)
  have hf : H1 s1.heap.objs.size = none := I1.hok.fresh (Nat.le_refl _)
  refine ⟨.ref s1.heap.objs.size, upd H1 s1.heap.objs.size (.tup xs), I1.laid (t' := s1.toks) (fun b u e => Heap.get?_push_of_some _ e) (Nat.le_refl _) ?_, rfl, q _ hf⟩
  exact ⟨z, us, r, ⟨_, Heap.get?_push_size _ rfl, rfl, _, rfl⟩⟩
theorem zr8 (h : PA X es t) : PE X (.List es pos) (tLst t) := by
  intro pins s σ H Q I hq
  refine wpAny_List_spliced (thn (h pos pins s σ H _ I hq) fun us s1 ⟨xs, H1, I1, r, z, q⟩ => ⟨by rw [← r.length]; exact z, ?_⟩)
  have hf : H1 s1.heap.objs.size = none := I1.hok.fresh (Nat.le_refl _)
  refine ⟨.ref s1.heap.objs.size, upd H1 s1.heap.objs.size (.lst xs), I1.laid (t' := s1.toks) (fun b u e => Heap.get?_push_of_some _ e) (Nat.le_refl _) ?_, rfl, q _ hf⟩
  exact ⟨z, us, 0, r, Heap.get?_push_size _ rfl⟩
end
noncomputable abbrev Sp := List V → Hp → VK → XK → Prop
noncomputable abbrev CXT := List Env → Hp → Shared → XK → Value → Shared → Prop
structure Env0 (P : Program) (w : World) (K : PySem.W.Frag) (mg : Str → Option Value) (base : Heap) (A : Around) (outer : List Env) (s : Shared) (H : Hp) : Prop where
  frames : A.frames = some outer
  mod : Mod K mg base
  bs : ∀ b o, base.get? b = some o → s.heap.get? b = some o ∧ H b = none
  bsz : base.objs.size ≤ s.heap.objs.size
  funs : s.heap.FunFrames base outer
  frf : ∀ b ∈ frs outer, H b = none
  hok : HOk P w H s.heap
  bare : AllBare s.gens
noncomputable def CE (outer : List Env) (P : Program) (w : World) (H : Hp) (s : Shared) (Q : VK) (u : Value) (s' : Shared) : Prop :=
  ∃ v H', s'.os = s.os ∧ AllBare s'.gens ∧ Un (frs outer) [] H H' s.heap s'.heap ∧ HOk P w H' s'.heap ∧ RelV v u ∧ Q v H'
noncomputable def CR (CX : CXT) (outer : List Env) (P : Program) (w : World) (H : Hp) (s : Shared) (Q : VK) (E : XK) (r : Result) (s' : Shared) : Prop :=
  match r with
  | .ok (.ret u) => CE outer P w H s Q u s'
  | .ok _ => False
  | .error e => CX outer H s E e s'
structure FnOk (P : Program) (w : World) (K : PySem.W.Frag) (mg : Str → Option Value) (base : Heap) (CX : CXT) (k : Nat) (f : Addr) (fd : FuncData) (ps : List Str) (sp : Sp) : Prop where
  len : ∀ vs H Q E, sp vs H Q E → vs.length = ps.length
  run : ∀ (A : Around) (outer : List Env) (s : Shared) (H : Hp) (args : Args) (us : List Value) (vs : List V) (Q : VK) (E : XK), Room k A → Env0 P w K mg base A outer s H → BindsTo s fd args (ps.zip us) → Vals vs us → sp vs H Q E →
    codeAny (model P w) A (.call (.ref f) args) (CR CX outer P w H s Q E) s
theorem FnOk.mono {P : Program} {w : World} {K : PySem.W.Frag} {mg : Str → Option Value} {base : Heap} {CX : CXT} {j k : Nat} {f : Addr} {fd : FuncData} {ps : List Str} {sp : Sp} (F : FnOk P w K mg base CX j f fd ps sp) (h : j ≤ k) :
    FnOk P w K mg base CX k f fd ps sp := ⟨F.len, fun A outer s H args us vs Q E hr => F.run A outer s H args us vs Q E (hr.mono h)⟩
theorem FnOk.imp {P : Program} {w : World} {K : PySem.W.Frag} {mg : Str → Option Value} {base : Heap} {CX : CXT} {k : Nat} {f : Addr} {fd : FuncData} {ps : List Str} {sp sp' : Sp} (F : FnOk P w K mg base CX k f fd ps sp)
    (h : ∀ vs H Q E, sp' vs H Q E → sp vs H Q E) : FnOk P w K mg base CX k f fd ps sp' :=
  ⟨fun vs H Q E q => F.len vs H Q E (h _ _ _ _ q), fun A outer s H args us vs Q E hr he hb hv hs => F.run A outer s H args us vs Q E hr he hb hv (h _ _ _ _ hs)⟩
theorem Env0.in1 {P : Program} {w : World} {K : PySem.W.Frag} {mg : Str → Option Value} {base : Heap} {A : Around} {outer : List Env} {s : Shared} {H : Hp} (e : Env0 P w K mg base A outer s H) :
    Env0 P w K mg base A.in1 outer s H := ⟨e.frames, e.mod, e.bs, e.bsz, e.funs, e.frf, e.hok, e.bare⟩
section
variable {X : Cx} {pins : List (Addr × Obj)} {σ : St} {H : Hp} {s s' : Shared}
theorem Inv.env0 (I : Inv X pins σ H s) : Env0 X.prog X.w X.K X.mg X.base X.A X.stack s H :=
  ⟨I.ok.frames, I.ok.mod, I.bs, Nat.le_trans I.ok.bsz I.sz, I.stack, I.stkFree, I.hok, I.bare⟩
theorem Inv.after {Q : VK} {u : Value} (I : Inv X pins σ H s) (h : CE X.stack X.prog X.w H s Q u s') : EP X pins σ Q u s' := by
  obtain ⟨v, H', os, bare, un, hok, r, q⟩ := h
  obtain ⟨hh, g, d, t, os'⟩ := s'
  obtain rfl : os' = s.os := os
  exact ⟨v, H', I.call (h' := hh) (g' := g) (d' := d) (t' := t) (ch := []) un hok bare (fun b z => absurd z (by simp)), r, q⟩
end
noncomputable def zvX (sp : Sp) (dvs : List V) (E : XK) (t : TA) : TE := fun σ H Q => t σ H fun vs H1 => sp (vs ++ dvs) H1 Q E
noncomputable def Binds (K : PySem.W.Frag) (fd : FuncData) (ps : List Str) (ds : List Value) : Prop :=
  ∀ (s : Shared) (us : List Value), K.In s.heap → (us ++ ds).length = ps.length → BindsTo s fd ⟨us, []⟩ (ps.zip (us ++ ds))
theorem Binds.all {K : PySem.W.Frag} {fd : FuncData} {ps : List Str} (h : ∀ us : List Value, us.length = ps.length → bindArgs fd ⟨us, []⟩ = pure (ps.zip us)) : Binds K fd ps [] := fun s us _ hl => by
  rw [List.append_nil] at hl ⊢
  exact .of_eq (h us hl)
noncomputable def zl5 (CX : CXT) (X : Cx) (E : XK) : Prop := ∀ (pins : List (Addr × Obj)) (σ : St) (H : Hp) (s : Shared) (e : Value) (s' : Shared), Inv X pins σ H s → CX X.stack H s E e s' → X.xe e s'
section
variable {X : Cx} {CX : CXT} {k : Nat} {f C : Addr} {fd : FuncData} {ps : List Str} {sp : Sp} {dvs : List V} {ds : List Value} {E : XK} {x m : Str} {p pos apos : Pos} {e o : Expr} {es : List Expr} {ta : TE} {t : TA}
theorem zr9 {pins : List (Addr × Obj)} {σ : St} {H : Hp} {s : Shared} {Q : VK} {us : List Value} {vs : List V} (F : FnOk X.prog X.w X.K X.mg X.base CX k f fd ps sp) (hr : Room k X.A) (hb : Binds X.K fd ps ds) (hd : Vals dvs ds) (hx : zl5 CX X E)
    (I : Inv X pins σ H s) (r : Vals vs us) (h : sp (vs ++ dvs) H Q E) : wpAny (model X.prog X.w) X.A (call (.ref f) us) (EP X pins σ Q) X.xe s := by
  have r2 : Vals (vs ++ dvs) (us ++ ds) := r.append hd
  have hl : (us ++ ds).length = ps.length := by rw [← r2.length]; exact F.len _ _ _ _ h
  refine wpAny_call (codeAny_mono (F.run X.A X.stack s H ⟨us, []⟩ (us ++ ds) (vs ++ dvs) Q E hr I.env0 (hb s us I.kIn hl) r2 h) fun r s' hq => ?_)
  cases r with
  | error e => exact hx pins σ H s e s' I hq
  | ok fl =>
    cases fl with
    | ret u => exact I.after hq
    | next => exact False.elim hq
    | brk => exact False.elim hq
    | cont => exact False.elim hq
theorem zl6 (F : FnOk X.prog X.w X.K X.mg X.base CX k f fd ps sp) (hr : Room k X.A) (hg : Gl X x) (hm : X.mg x = some (.ref f)) (hk : PySem.W.keepIn X.K (.ref f) = true) (hb : Binds X.K fd ps ds) (hd : Vals dvs ds) (hx : zl5 CX X E)
    (ha : PA X (e :: es) t) (hdb : (x == ("__debug__" : Str)) = false := by decide) (he : starEach (e :: es) X.env = (false, eval e X.env) :: starEach es X.env := by rfl) (hpl : (backTo pos (starEach es X.env)).any (·.1) = false := by rfl) :
    PE X (.Call (.Name x p) (e :: es) [] pos) (zvX sp dvs E t) := by
  intro pins s σ H Q I h
  refine wpAny_Call_Name_kw (zlV I hg hm ?_ hdb)
  refine PySem.W.callWith_K (h₀ := X.base) I.ok.mod.kin hk (thn (ha pos pins s σ H _ I h) fun us s1 ⟨vs, H1, I1, r, q⟩ => ⟨I1.kIn, ?_⟩) he hpl
  exact zr9 F hr hb hd hx I1 r q
end
structure FnScope (N P : List Str) (sc : Scope) : Prop where
  kind : sc.kind = .function
  co : sc.isCoroutine = false
  gen : sc.isGenerator = false
  nd : N.Nodup
  pre : N.take P.length = P
  par : ∀ x ∈ P, sc.names.lookup x = some .local ∨ sc.names.lookup x = some .cell
  nofree : ∀ y ∈ sc.names, y.2 ≠ .free
theorem zh2 {kindOf : Str → Option NameKind} {x : Str} : ∀ {binds : List (Str × Value)} {m : Str → Option Value}, (∀ v, (x, v) ∉ binds) → bindL kindOf binds m x = m x
  | [], _, _ => rfl
  | (n, v) :: r, m, h => by
    unfold bindL
    rw [zh2 fun w hw => h w (List.mem_cons_of_mem _ hw)]
    split
    · have : x ≠ n := by rintro rfl; exact h v List.mem_cons_self
      simp [this]
    · rfl
theorem zh3 {kindOf : Str → Option NameKind} {x : Str} : ∀ {binds : List (Str × Value)} {m : Str → Option Value}, (∀ v, (x, v) ∉ binds) → bindC kindOf binds m x = m x
  | [], _, _ => rfl
  | (n, v) :: r, m, h => by
    unfold bindC
    rw [zh3 fun w hw => h w (List.mem_cons_of_mem _ hw)]
    split
    · rfl
    · have : x ≠ n := by rintro rfl; exact h v List.mem_cons_self
      simp [this]
theorem zh4 {kindOf : Str → Option NameKind} {x : Str} {v : Value} : ∀ {P : List Str} {vs : List Value} {i : Nat} {m : Str → Option Value}, P.Nodup → P[i]? = some x → vs[i]? = some v → kindOf x = some .local →
    bindL kindOf (P.zip vs) m x = some v
  | [], _, _, _, _, h, _, _ => by simp at h
  | _ :: _, [], _, _, _, _, h, _ => by simp at h
  | p :: P, w :: vs, 0, m, nd, h1, h2, hk => by
    simp at h1 h2; subst h1; subst h2
    show bindL kindOf ((p, w) :: P.zip vs) m p = _
    unfold bindL
    rw [zh2 fun v hv => (List.nodup_cons.mp nd).1 (List.of_mem_zip hv).1, if_pos hk]
    simp
  | p :: P, w :: vs, i + 1, m, nd, h1, h2, hk => by
    show bindL kindOf ((p, w) :: P.zip vs) m x = _
    unfold bindL
    exact zh4 (i := i) (List.nodup_cons.mp nd).2 (by simpa using h1) (by simpa using h2) hk
theorem zh5 {kindOf : Str → Option NameKind} {x : Str} {v : Value} : ∀ {P : List Str} {vs : List Value} {i : Nat} {m : Str → Option Value}, P.Nodup → P[i]? = some x → vs[i]? = some v → kindOf x ≠ some .local →
    bindC kindOf (P.zip vs) m x = some v
  | [], _, _, _, _, h, _, _ => by simp at h
  | _ :: _, [], _, _, _, _, h, _ => by simp at h
  | p :: P, w :: vs, 0, m, nd, h1, h2, hk => by
    simp at h1 h2; subst h1; subst h2
    show bindC kindOf ((p, w) :: P.zip vs) m p = _
    unfold bindC
    rw [zh3 fun v hv => (List.nodup_cons.mp nd).1 (List.of_mem_zip hv).1, if_neg hk]
    simp
  | p :: P, w :: vs, i + 1, m, nd, h1, h2, hk => by
    show bindC kindOf ((p, w) :: P.zip vs) m x = _
    unfold bindC
    exact zh5 (i := i) (List.nodup_cons.mp nd).2 (by simpa using h1) (by simpa using h2) hk
noncomputable def zdw (N : List Str) (vs : List V) : St := vs.map some ++ List.replicate (N.length - vs.length) none
noncomputable def cxOf (CX : CXT) (P : Program) (w : World) (K : PySem.W.Frag) (mg : Str → Option Value) (base : Heap) (N : List Str) (qual : Str) (scope : Scope) (f : Addr) (cd : Value) (A : Around) (outer : List Env) (s : Shared) (H : Hp) (E : XK) : Cx where
  prog := P
  w := w
  K := K
  mg := mg
  base := base
  A := A.deeper (envOfC qual scope s.heap.objs.size f cd)
  N := N
  s₀ := s
  H₀ := H
  env := envOfC qual scope s.heap.objs.size f cd
  outer := outer
  stack := envOfC qual scope s.heap.objs.size f cd :: outer
  ex := []
  calm := true
  fn := fun _ => true
  pn := []
  xe := fun e s' => wpAny (model P w) (A.deeper (envOfC qual scope s.heap.objs.size f cd)) (leaving (envOfC qual scope s.heap.objs.size f cd) e) (fun _ s'' => CX outer H s E e s'') (fun e' s'' => CX outer H s E e' s'') s'
theorem zkj {sc : Scope} {n : Nat} {x : Str} (h : sc.names.lookup x = some .cell) : ∃ c, (cellsFrom n sc.names []).lookup x = some c := by
  have q := PySem.W.cellsFrom_some sc.names n [] (.inl h)
  exact Option.isSome_iff_exists.mp q
theorem zl7 {CX : CXT} {P : Program} {w : World} {K : PySem.W.Frag} {mg : Str → Option Value} {base : Heap} {N ps : List Str} {qual : Str} {scope : Scope} {f : Addr} {cd : Value} {A : Around} {outer : List Env} {s s1 : Shared} {H : Hp} {E : XK} {us : List Value} {vs : List V}
    (S : FnScope N ps scope) (hd : A.handled = none) (e0 : Env0 P w K mg base A outer s H) (hl : vs.length = ps.length) (r : Vals vs us)
    (x : InCallC s s.heap.objs.size (bindL (envOfC qual scope s.heap.objs.size f cd).kindOf (ps.zip us) fun _ => none) (cellsFrom (s.heap.objs.size + 1) scope.names []) (bindC (envOfC qual scope s.heap.objs.size f cd).kindOf (ps.zip us) fun _ => none) s1) :
    Inv (cxOf CX P w K mg base N qual scope f cd A outer s H E) [] (zdw N vs) H s1 := by
  have hpl : ps.length ≤ N.length := by have := congrArg List.length S.pre; rw [List.length_take] at this; omega
  obtain ⟨h1, tk, rfl, hk⟩ := x.done
  have noA : ∀ b : Addr, b ∉ (cxOf CX P w K mg base N qual scope f cd A outer s H E).ex := fun b z => absurd (show b ∈ ([] : List Addr) from z) (by simp)
  refine ⟨⟨e0.mod, S.kind, rfl, rfl, Nat.le_refl _, fun y z c h1 h2 => ?_, fun y hy => ?_, fun y c _ h => ?_, fun _ => hd, Around.frames_deeper e0.frames, .inr ⟨rfl, rfl⟩, fun b z => absurd z (noA b), e0.bs, e0.bsz, fun b _ _ => noA b, fun b z => absurd z (noA b), e0.funs, e0.frf⟩,
    rfl, e0.bare, Un.kept hk, ⟨_, x.toInCall.ns, fun i y v h1 h2 h3 => ?_⟩, fun y c h => ⟨_, x.cell y c h⟩, e0.hok.fresh (Nat.le_refl _), fun y c h => ?_, fun p hp => absurd (show p ∈ ([] : List (Addr × Obj)) from hp) (by simp), e0.hok.kept hk, ?_⟩
  · exact name_of_addr x.apart (PySem.mem_of_lookup h1) (PySem.mem_of_lookup h2)
  · have hy : scope.names.lookup y = some .cell ∨ scope.names.lookup y = some .free := hy
    rcases hy with hy | hy
    · exact zkj hy
    · exact absurd rfl (S.nofree _ (PySem.mem_of_lookup hy))
  · exact Nat.le_of_lt (x.above y c (PySem.mem_of_lookup h))
  · have hi : i < vs.length := by
      unfold zdw at h2
      by_cases hi : i < vs.length
      · exact hi
      · rw [List.getElem?_append_right (by simpa using hi)] at h2
        rw [List.getElem?_replicate] at h2
        split at h2 <;> cases h2
    have ha : vs[i]? = some v := by
      unfold zdw at h2
      rw [List.getElem?_append_left (by simpa using hi), List.getElem?_map] at h2
      cases e : vs[i]? with
      | none => rw [e] at h2; cases h2
      | some a => rw [e] at h2; cases h2; rfl
    obtain ⟨u, hu, rv⟩ := r.get ha
    have hp : ps[i]? = some y := by
      rw [← S.pre, List.getElem?_take_of_lt (by omega)]; exact h1
    have ndP : ps.Nodup := by rw [← S.pre]; exact S.nd.sublist (List.take_sublist _ _)
    refine ⟨u, rv, ?_⟩
    rcases S.par y (List.mem_of_getElem? hp) with k | k
    · exact .inl ⟨k, zh4 ndP hp hu k⟩
    · obtain ⟨c, e⟩ := zkj (n := s.heap.objs.size + 1) k
      refine .inr ⟨.inl k, c, e, ?_⟩
      have q := x.cell y c e
      rw [zh5 ndP hp hu (by show scope.names.lookup y ≠ _; rw [k]; decide)] at q
      exact q
  · exact e0.hok.fresh (Nat.le_of_lt (x.above y c (PySem.mem_of_lookup h)))
  · unfold zdw
    show _ = N.length
    rw [List.length_append, List.length_map, List.length_replicate]
    omega
theorem zvY {CX : CXT} {P : Program} {w : World} {K : PySem.W.Frag} {mg : Str → Option Value} {base : Heap} {k : Nat} {f : Addr} {name qual : Str} {params : Arguments} {body : List Stmt} {scope : Scope} {dV kV doc pm cdv ct oc : Value} {an od : Option Addr}
    {osl : Array (Option Value)} {N ps : List Str} {sp : Sp} (lk : K.lookup f = some ⟨oc, od, .func (PySem.W.fnOf name qual params body scope dV kV doc pm an cdv ct), osl⟩) (hcd : PySem.W.codeIn K cdv qual = true) (S : FnScope N ps scope)
    (len : ∀ vs H Q E, sp vs H Q E → vs.length = ps.length)
    (hbody : ∀ (A : Around) (outer : List Env) (s : Shared) (H : Hp) (vs : List V) (Q : VK) (E : XK), Room k (A.deeper (envOfC qual scope s.heap.objs.size f cdv)) → sp vs H Q E →
      ∃ t, PSs (cxOf CX P w K mg base N qual scope f cdv A outer s H E) body t ∧ t { nx := fun _ H' => Q .non H', rt := Q } (zdw N vs) H) :
    FnOk P w K mg base CX (k + 1) f (PySem.W.fnOf name qual params body scope dV kV doc pm an cdv ct) ps sp := by
  refine ⟨len, fun A outer s H args us vs Q E hr e0 hb r hsp => ?_⟩
  have hl := len _ _ _ _ hsp
  have KX : K.In s.heap := e0.mod.kin.keeps fun b o e => (e0.bs b o e).1
  have lim : s.heap.NoLimit := e0.mod.nolimit.keeps fun b o e => (e0.bs b o e).1
  have hkind : ∀ y ∈ ps.zip us, scope.names.lookup y.1 = some .local ∨ (scope.names.lookup y.1 = some .cell ∧ ((cellsFrom (s.heap.objs.size + 1) scope.names []).lookup y.1).isSome = true) := fun ⟨n, v⟩ hy => by
    rcases S.par n (List.of_mem_zip hy).1 with q | q
    · exact .inl q
    · exact .inr ⟨q, PySem.W.cellsFrom_some _ _ _ (.inl q)⟩
  refine codeAny_call_function hr.depth (KX _ _ lk) rfl S.co S.gen rfl (PySem.W.codeRec_of KX hcd) (hb _ _ _ _ ?_)
  refine wpAny_newFunctionEnv_cells S.kind hkind fun env he s1 x => ?_
  subst he
  refine ⟨lim.keeps x.toInCall.keep, codeAny_func ?_⟩
  obtain ⟨t, ht, hq⟩ := hbody A outer s H vs Q E (hr.deeper _) hsp
  have I : Inv (cxOf CX P w K mg base N qual scope f cdv A outer s H E) [] (zdw N vs) H s1 := zl7 S hr.hd e0 hl r x
  refine wpAny_mono (ht [] s1 (zdw N vs) H _ I hq) (fun fl s' hs => ?_) fun e s' hs => hs
  have fin : ∀ {σ' : St} {H' : Hp} {v : V} {u : Value}, Inv (cxOf CX P w K mg base N qual scope f cdv A outer s H E) [] σ' H' s' → RelV v u → Q v H' → CE outer P w H s Q u s' :=
    fun {σ' H' v u} J rv q => ⟨v, H', J.os, J.bare, J.base, J.hok, rv, q⟩
  cases fl with
  | ret u =>
    obtain ⟨v, σ', H', J, rv, q⟩ := hs
    exact fin J rv q
  | next =>
    obtain ⟨σ', H', J, q⟩ := hs
    exact fin (v := V.non) (u := Value.none) J rfl q
  | brk =>
    obtain ⟨_, _, _, q⟩ := hs
    exact False.elim q
  | cont =>
    obtain ⟨_, _, _, q⟩ := hs
    exact False.elim q
end L2
namespace L2
open PySem PySem.Spec PyProof.Rows
section
variable {X : Cx} {x : Str} {p pos : Pos} {e : Expr} {es : List Expr} {t : TA} {id T : String} {r : List V → Hp → VK → Prop}
noncomputable def tCB (r : List V → Hp → VK → Prop) (t : TA) : TE := fun σ H Q => t σ H fun vs H1 => r vs H1 Q
theorem zgZ (hc : CallR X (.builtin id) r) (hg : Gl X x) (hm : X.mg x = none) (hv : bootBuiltins x = some (.builtin id)) (ha : PA X (e :: es) t) (hn : x ≠ "__name__" := by decide) (hdb : (x == ("__debug__" : Str)) = false := by decide)
    (he : starEach (e :: es) X.env = (false, eval e X.env) :: starEach es X.env := by rfl) (hpl : (backTo pos (starEach es X.env)).any (·.1) = false := by rfl) : PE X (.Call (.Name x p) (e :: es) [] pos) (tCB r t) := by
  intro pins s σ H Q I h
  refine wpAny_Call_Name_kw (zh0 I hg hm hv ?_ hn hdb)
  exact PyProof.Rows.callWith_builtin1 (thn (ha pos pins s σ H _ I h) fun us s1 ⟨vs, H1, I1, r1, q1⟩ => hc pins s1 σ H1 vs us Q I1 r1 q1) he hpl
theorem zl8 (hc : CallR X (.type T) r) (hg : Gl X x) (hm : X.mg x = none) (hv : bootBuiltins x = some (.type T)) (ha : PA X (e :: es) t) (hn : x ≠ "__name__" := by decide) (hdb : (x == ("__debug__" : Str)) = false := by decide)
    (he : starEach (e :: es) X.env = (false, eval e X.env) :: starEach es X.env := by rfl) (hpl : (backTo pos (starEach es X.env)).any (·.1) = false := by rfl) : PE X (.Call (.Name x p) (e :: es) [] pos) (tCB r t) := by
  intro pins s σ H Q I h
  refine wpAny_Call_Name_kw (zh0 I hg hm hv ?_ hn hdb)
  exact PyProof.Rows.callWith_type1 (thn (ha pos pins s σ H _ I h) fun us s1 ⟨vs, H1, I1, r1, q1⟩ => hc pins s1 σ H1 vs us Q I1 r1 q1) he hpl
end
end L2
namespace HT
open PySem PyProof.Rows
noncomputable def lexLt : List Int → List Int → Bool
  | [], [] => false
  | [], _ :: _ => true
  | _ :: _, [] => false
  | x :: xs, y :: ys => if x = y then lexLt xs ys else decide (x < y)
theorem lexLt_cons (x y : Int) (xs ys : List Int) : lexLt (x :: xs) (y :: ys) = if x = y then lexLt xs ys else decide (x < y) := rfl
theorem zg0 : lexLt [] [] = false := rfl
theorem zf4 (y : Int) (ys : List Int) : lexLt [] (y :: ys) = true := rfl
theorem zf5 (x : Int) (xs : List Int) : lexLt (x :: xs) [] = false := rfl
theorem zn4 (A : Around) (s : Shared) (a : Int) (t : Tok) (c : Int) (u : Tok) : ∃ e, SeqAt.EqAt A s (.int a t) (.int c u) e ∧ (e = true ↔ a = c) :=
  ⟨(a == c), SeqAt.EqAt.int_int a t c u, by simp⟩
theorem zn5 (A : Around) (s : Shared) (a : Int) (t : Tok) (c : Int) (u : Tok) (prog : Program) (w : World) (E : Value → Shared → Prop) (Q : Value → Shared → Prop) (h : Q (.bool (decide (a < c))) s) :
    wpAny (model prog w) A (richCompare .Lt (.int a t) (.int c u)) Q E s :=
  (PyProof.Rows.lt_int h : wpAny (model prog w) A (compareOp .Lt (.int a t) (.int c u)) Q E s)
section
open PySem.SeqAt
open PySem.AutoSeq1 (wpAny_loadPart')
open PySem.MeetsSeq PySem.MeetsSeq2 PySem.MeetsSeq3
theorem zg1 (l b : Addr) (items items2 : Array Value) (n n2 : Nat) (dd dd2 : Option Addr) (sl sl2 : Array (Option Value)) (ns ms : List Int) (hi : IntsAre items.toList ns) (hj : IntsAre items2.toList ms) :
    Meets (Builtin.«tuple.__lt__» ⟨[.ref l, .ref b], []⟩)
      (fun _ R s => s.heap.get? l = some { cls := .type "tuple", dict := dd, data := .seq items n, slots := sl } ∧ s.heap.get? b = some { cls := .type "tuple", dict := dd2, data := .seq items2 n2, slots := sl2 } ∧
        R (.ok (.ret (.bool (lexLt ns ms)))) s) :=
  .of_wp fun prog w A R s h => by
    obtain ⟨hp, g, d, tk, os⟩ := s; obtain ⟨hl, hb, h⟩ := h
    have f2 := AutoSeq1.sub_tuple_tuple
    have z1 : items.size = ns.length := by rw [← hi.length]; simp
    have z2 : items2.size = ms.length := by rw [← hj.length]; simp
    wp_walk using wpAny_loadPart' hl, wpAny_loadPart' hb, wpAny_forIn_list _ (fun rest b s' => b.1 = none ∧ s' = ⟨hp, g, d, tk, os⟩ ∧ ∃ (vs ws : List Value) (ns' ms' : List Int), rest = vs.zip ws ∧
      IntsAre vs ns' ∧ IntsAre ws ms' ∧ ns'.length + items2.size = ms'.length + items.size ∧ R (.ok (.ret (.bool (lexLt ns' ms')))) ⟨hp, g, d, tk, os⟩) _
    case turn =>
      rintro ⟨y, x⟩ rest b s' ⟨hb', rfl, vs, ws, ns', ms', hz, hvi, hwi, hlen, hR⟩
      cases hvi with
      | nil => rw [List.zip_nil_left] at hz; cases hz
      | cons a t hvi' =>
        cases hwi with
        | nil => rw [List.zip_nil_right] at hz; cases hz
        | cons c u hwi' =>
          rw [List.zip_cons_cons] at hz
          injection hz with hyx hrest
          injection hyx with hy hx
          subst hy hx
          rw [lexLt_cons] at hR
          simp only [List.length_cons] at hlen
          obtain ⟨e, he, hiff⟩ := zn4 A.in1 ⟨hp, g, d, tk, os⟩ a t c u
          refine wpAny_bind (he prog w _ _ ?_)
          cases e with
          | true =>
            rw [if_pos (hiff.mp rfl)] at hR
            wp_walk
            exact ⟨rfl, rfl, _, _, _, _, hrest, hvi', hwi', by omega, hR⟩
          | false =>
            rw [if_neg (fun q => absurd (hiff.mpr q) Bool.false_ne_true)] at hR
            have hri := zn5 A.in1 ⟨hp, g, d, tk, os⟩ a t c u prog w
            wp_walk using hri
            exact ⟨_, rfl, by simpa using hR⟩
    case fin =>
      rintro ⟨b1, b2⟩ s' ⟨hb', rfl, vs, ws, ns', ms', hz, hvi, hwi, hlen, hR⟩
      simp only at hb'
      subst hb'
      have hv : lexLt ns' ms' = decide (items.size < items2.size) := by
        cases hvi with
        | nil =>
          cases hwi with
          | nil =>
            simp only [List.length_nil] at hlen
            rw [zg0]
            exact (decide_eq_false (by omega)).symm
          | cons c u hw =>
            simp only [List.length_nil, List.length_cons] at hlen
            rw [zf4]
            exact (decide_eq_true (by omega)).symm
        | cons a t hv =>
          cases hwi with
          | nil =>
            simp only [List.length_nil, List.length_cons] at hlen
            rw [zf5]
            exact (decide_eq_false (by omega)).symm
          | cons c u hw =>
            rw [List.zip_cons_cons] at hz
            cases hz
      rw [hv] at hR
      wp_walk
      exact ⟨_, rfl, by simpa [Builtin.Tuple.tupleCompareSizes] using hR⟩
    case h =>
      exact ⟨rfl, rfl, items.toList, items2.toList, ns, ms, rfl, hi, hj, by omega, h⟩
end
section
variable {prog : Program} {w : World} {A : Around} {E : Value → Shared → Prop} {s : Shared}
theorem lt_tupInts {l b : Addr} {items items2 : Array Value} {ns ms : List Int} {Q : Value → Shared → Prop} (hl : IsTup s.heap l items) (hb : IsTup s.heap b items2) (hi : IntsAre items.toList ns) (hj : IntsAre items2.toList ms)
    (hu : A.units < cLine) (h : Q (.bool (lexLt ns ms)) s) : wpAny (model prog w) A (compareOp .Lt (.ref l) (.ref b)) Q E s := by
  obtain ⟨⟨cls, dd, data, sl⟩, ho, hc, n, hd⟩ := id hl
  obtain ⟨⟨cls2, dd2, data2, sl2⟩, ho2, hc2, n2, hd2⟩ := id hb
  simp only at hc hd hc2 hd2
  subst hc hd hc2 hd2
  exact richCompare_meets_room (op := .Lt) ⟨_, ho, rfl⟩ ⟨_, ho2, rfl⟩ PySem.F.slot_tuple_lt PySem.F.entry_tuple_lt (PySem.F.args_tuple_lt_2 _ _) (zg1 l b items items2 n n2 dd dd2 sl sl2 ns ms hi hj)
    ⟨ho, ho2, show Value.bool (lexLt ns ms) ≠ Value.notImplemented ∧ Q (.bool (lexLt ns ms)) s from ⟨(fun x => nomatch x), h⟩⟩ hu
noncomputable def sIx (n d : Nat) : Option Int → Nat
  | none => d
  | some v => if v < 0 then (v + (n : Int)).toNat else min v.toNat n
theorem sIx_none (n d : Nat) : sIx n d none = d := rfl
theorem sIx_nat (n d k : Nat) : sIx n d (some (k : Int)) = min k n := by
  show (if (k : Int) < 0 then ((k : Int) + (n : Int)).toNat else min (k : Int).toNat n) = min k n
  rw [if_neg (by omega), Int.toNat_natCast]
end
end HT
namespace L2
open PySem PySem.Spec PyProof.Rows
noncomputable abbrev TO := St → Hp → (Option Int → Hp → Prop) → Prop
noncomputable def PO (X : Cx) (e : Option Expr) (t : TO) : Prop :=
  ∀ (pins : List (Addr × Obj)) (s : Shared) (σ : St) (H : Hp) (Q : Option Int → Hp → Prop), Inv X pins σ H s → t σ H Q →
    wpAny (model X.prog X.w) X.A (evalPart e X.env) (fun u s' => ∃ o H', Inv X pins σ H' s' ∧ IsPart u o ∧ Q o H') X.xe s
noncomputable def zqd : TO := fun _ H Q => Q none H
noncomputable def zvZ (t : TE) : TO := fun σ H Q => t σ H fun x H1 => ∃ i, x = .int i ∧ Q (some i) H1
theorem zbR {ns : List Int} : ∀ {us : List Value}, Vals (ns.map V.int) us → IntsAre us ns := by
  induction ns with
  | nil => intro us r; rw [List.map_nil] at r; cases r; exact .nil
  | cons n ns ih =>
    intro us r
    rw [List.map_cons] at r
    cases r with
    | cons r1 r2 =>
      obtain ⟨t, e⟩ := r1
      subst e
      exact .cons n t (ih r2)
section
variable {X : Cx} {e : Expr} {te : TE} {lo hi : Option Expr} {tl th : TO} {pos p2 : Pos}
theorem zqe : PO X none zqd := by
  intro pins s σ H Q I h
  rw [evalPart_none]
  exact wpAny_pure ⟨none, H, I, .none, h⟩
theorem zqf (h : PE X e te) : PO X (some e) (zvZ te) := by
  intro pins s σ H Q I hw
  rw [evalPart_some]
  refine thn (h pins s σ H _ I hw) fun u s1 ⟨x, H1, I1, r1, q1⟩ => ?_
  obtain ⟨i, rfl, q⟩ := q1
  obtain ⟨t, rfl⟩ := r1
  exact ⟨some i, H1, I1, .int i t, q⟩
noncomputable def SlR (X : Cx) (r : V → Option Int → Option Int → Hp → VK → Prop) : Prop :=
  ∀ (pins : List (Addr × Obj)) (s : Shared) (σ : St) (H : Hp) (x : V) (v vl vu : Value) (lo hi : Option Int) (sl : Addr) (Q : VK), Inv X pins σ H s → RelV x v → s.heap.IsSliceOf sl vl vu .none → IsPart vl lo → IsPart vu hi → r x lo hi H Q →
    ∃ T id, typeLookup (.type T) "__getitem__" = pure (some (.builtin id)) ∧ s.TypeIs v T ∧ wpAny (model X.prog X.w) X.A (getItem v (.ref sl)) (EP X pins σ Q) X.xe s
theorem SlR.or {r r' : V → Option Int → Option Int → Hp → VK → Prop} (h : SlR X r) (h' : SlR X r') : SlR X (fun x lo hi H Q => r x lo hi H Q ∨ r' x lo hi H Q) := by
  intro pins s σ H x v vl vu lo hi sl Q I rx hs pl pu q
  rcases q with q | q
  · exact h pins s σ H x v vl vu lo hi sl Q I rx hs pl pu q
  · exact h' pins s σ H x v vl vu lo hi sl Q I rx hs pl pu q
noncomputable def tSl (r : V → Option Int → Option Int → Hp → VK → Prop) (te : TE) (tl th : TO) : TE := fun σ H Q => te σ H fun x H1 => tl σ H1 fun l H2 => th σ H2 fun u H3 => r x l u H3 Q
theorem zn6 {r : V → Option Int → Option Int → Hp → VK → Prop} (hr : SlR X r) (he : PE X e te) (hl : PO X lo tl) (hu : PO X hi th) : PE X (.Subscript e (.Slice lo hi none p2) pos) (tSl r te tl th) := by
  intro pins s σ H Q I h
  refine Subscript_ (thn (he pins s σ H _ I h) fun v s1 ⟨x, H1, I1, r1, q1⟩ => ?_)
  refine wpAny_Slice (thn (hl pins s1 σ H1 _ I1 q1) fun vl s2 ⟨l, H2, I2, pl, q2⟩ => thn (hu pins s2 σ H2 _ I2 q2) fun vu s3 ⟨u, H3, I3, pu, q3⟩ => ?_)
  rw [evalPart_none]
  refine wpAny_pure ?_
  have I4 : Inv X pins σ H3 { s3 with heap := s3.heap.push { cls := .type "slice", data := .fields #[vl, vu, .none] } } := I3.kept (t' := s3.toks) fun b ob q => Heap.get?_push_of_some _ q
  obtain ⟨T, id, hT, ht, hg⟩ := hr pins { s3 with heap := s3.heap.push { cls := .type "slice", data := .fields #[vl, vu, .none] } } σ H3 x v vl vu l u s3.heap.objs.size Q I4 r1 (Heap.IsSliceOf.new ..) pl pu q3
  show wpAny (model X.prog X.w) X.A (subscriptTail e (.Slice lo hi none p2) v (.ref s3.heap.objs.size)) (EP X pins σ Q) X.xe { s3 with heap := s3.heap.push { cls := .type "slice", data := .fields #[vl, vu, .none] } }
  exact tail_any (ops := [.ref s3.heap.objs.size, v]) ht hT hg (by with_unfolding_all rfl)
noncomputable def cutV (xs : List V) (lo hi : Option Int) : List V := (xs.drop (HT.sIx xs.length 0 lo)).take (HT.sIx xs.length xs.length hi - HT.sIx xs.length 0 lo)
theorem zjo (xs : List V) (lo hi : Option Int) : (cutV xs lo hi).length ≤ xs.length := by
  unfold cutV
  rw [List.length_take, List.length_drop]
  omega
noncomputable def rLtT (K : PySem.W.Frag) : R2 := fun x y H Q => ∃ a b ns ms, x = .ref a ∧ y = .ref b ∧ SqT K H a (ns.map V.int) ∧ SqT K H b (ms.map V.int) ∧ Q (.bl (HT.lexLt ns ms)) H
theorem zsa (hu : X.A.units < cLine) : OpR X (compareOp .Lt) (rLtT X.K) := by
  intro pins s σ H x y v u Q I rx ry h
  obtain ⟨a, b, ns, ms, rfl, rfl, ha, hb, q⟩ := h
  cases rx
  cases ry
  obtain ⟨its, r1, p1, _⟩ := I.tuple ha
  obtain ⟨its2, r2, p2, _⟩ := I.tuple hb
  have i1 : IntsAre its.toArray.toList ns := zbR r1
  have i2 : IntsAre its2.toArray.toList ms := zbR r2
  exact HT.lt_tupInts p1 p2 i1 i2 hu ⟨.bl (HT.lexLt ns ms), H, I, rfl, q⟩
end
end L2
namespace L2
open PySem PySem.Spec PyProof.Rows
noncomputable def ixN (n : Nat) (i : Int) : Option Nat := if 0 ≤ i then (if i < n then some i.toNat else none) else if -(n : Int) ≤ i then some (i + n).toNat else none
noncomputable def atI {α : Type} (xs : List α) (i : Int) : Option α := (ixN xs.length i).bind fun j => xs[j]?
theorem zqg {n : Nat} {i : Int} {j : Nat} (h : ixN n i = some j) : seqIndex? i n = some j ∧ j < n ∧ -(n : Int) ≤ i ∧ i < n := by
  unfold ixN at h
  by_cases h0 : 0 ≤ i
  · rw [if_pos h0] at h
    by_cases h1 : i < n
    · rw [if_pos h1] at h
      have e : i.toNat = j := Option.some.inj h
      exact ⟨by rw [seqIndex_of h0 h1, e], by omega, by omega, h1⟩
    · rw [if_neg h1] at h; cases h
  · rw [if_neg h0] at h
    by_cases h1 : -(n : Int) ≤ i
    · rw [if_pos h1] at h
      have e : (i + n).toNat = j := Option.some.inj h
      exact ⟨by rw [seqIndex_neg (by omega) h1, e], by omega, h1, by omega⟩
    · rw [if_neg h1] at h; cases h
theorem zl9 {α : Type} {xs : List α} {i : Int} {v : α} (h : atI xs i = some v) : ∃ j, seqIndex? i xs.length = some j ∧ xs[j]? = some v ∧ j < xs.length ∧ -(xs.length : Int) ≤ i ∧ i < xs.length := by
  unfold atI at h
  cases e : ixN xs.length i with
  | none => rw [e] at h; cases h
  | some j =>
    rw [e] at h
    obtain ⟨h1, h2, h3, h4⟩ := zqg e
    exact ⟨j, h1, h, h2, h3, h4⟩
theorem atI_nat {α : Type} {xs : List α} {j : Nat} {v : α} (h : xs[j]? = some v) : atI xs (j : Int) = some v := by
  have hj : j < xs.length := (List.getElem?_eq_some_iff.mp h).1
  have e : ixN xs.length (j : Int) = some j := by
    unfold ixN
    rw [if_pos (by omega), if_pos (by omega)]; simp
  unfold atI; rw [e]; exact h
noncomputable def zma (b : Expr) : Prop := ∀ o i, subscripted b false o i = operate [o, i] (getItem o i)
noncomputable def IxR (X : Cx) (r : R2) : Prop :=
  ∀ (value slice : Expr) (pins : List (Addr × Obj)) (s : Shared) (σ : St) (H : Hp) (x y : V) (v u : Value) (Q : VK), Inv X pins σ H s → RelV x v → RelV y u → r x y H Q →
    subscripted slice false v u = operate [v, u] (getItem v u) → wpAny (model X.prog X.w) X.A (subscriptTail value slice v u) (EP X pins σ Q) X.xe s
noncomputable def MtR (X : Cx) (id : String) (r : V → List V → Hp → VK → Prop) : Prop :=
  ∀ (pins : List (Addr × Obj)) (s : Shared) (σ : St) (H : Hp) (x : V) (xs : List V) (v : Value) (us : List Value) (Q : VK), Inv X pins σ H s → RelV x v → Vals xs us → r x xs H Q →
    wpAny (model X.prog X.w) X.A (call (.builtin id) (v :: us)) (EP X pins σ Q) X.xe s
section
variable {X : Cx} {a b : Expr} {ta tb : TE} {pos : Pos}
theorem IxR.or {r r' : R2} (h : IxR X r) (h' : IxR X r') : IxR X (fun x y H Q => r x y H Q ∨ r' x y H Q) := by
  intro value slice pins s σ H x y v u Q I rx ry q hs
  rcases q with q | q
  · exact h value slice pins s σ H x y v u Q I rx ry q hs
  · exact h' value slice pins s σ H x y v u Q I rx ry q hs
theorem MtR.or {id : String} {r r' : V → List V → Hp → VK → Prop} (h : MtR X id r) (h' : MtR X id r') : MtR X id (fun x xs H Q => r x xs H Q ∨ r' x xs H Q) := by
  intro pins s σ H x xs v us Q I rx rs q
  rcases q with q | q
  · exact h pins s σ H x xs v us Q I rx rs q
  · exact h' pins s σ H x xs v us Q I rx rs q
theorem zv0 {r : R2} (hr : IxR X r) (ha : PE X a ta) (hb : PE X b tb) (hs : zma b) : PE X (.Subscript a b pos) (tOp r ta tb) := by
  intro pins s σ H Q I h
  exact Subscript_ (binT ha hb I h fun v u s2 x y H2 I2 rx ry q => hr a b pins s2 σ H2 x y v u Q I2 rx ry q (hs _ _))
noncomputable def rIxL (K : PySem.W.Frag) : R2 := fun x y H Q => ∃ p xs i v, x = .ref p ∧ y = .int i ∧ SqL K H p xs ∧ atI xs i = some v ∧ Q v H
noncomputable def rIxT (K : PySem.W.Frag) : R2 := fun x y H Q => ∃ p xs i v, x = .ref p ∧ y = .int i ∧ SqT K H p xs ∧ atI xs i = some v ∧ Q v H
theorem zqh : IxR X (rIxL X.K) := by
  intro value slice pins s σ H x y v u Q I rx ry h hs
  obtain ⟨p, xs, i, z, rfl, rfl, hq, he, q⟩ := h
  cases rx
  obtain ⟨t, rfl⟩ := ry
  obtain ⟨its, r, pl, hz⟩ := I.list hq
  obtain ⟨j, h1, h2, h3, h4, h5⟩ := zl9 he
  obtain ⟨w, ew, rw'⟩ := r.get h2
  have hl := r.length
  have hn := zki
  have fin : EP X pins σ Q w s := ⟨z, H, I, rw', q⟩
  by_cases h0 : 0 ≤ i
  · have hj : i.toNat = j := by
      rw [seqIndex_of h0 h5] at h1
      exact Option.some.inj h1
    exact item_listR pl.isList h0 (by omega) (by rw [hj]; simpa using ew) fin hs
  · have hj : (i + (its.toArray.size : Int)).toNat = j := by
      rw [seqIndex_neg (by omega) h4] at h1
      rw [List.size_toArray, ← hl]
      exact Option.some.inj h1
    exact subscriptTail_builtinR (x := w) pl.isList.typeIs slot_list_getitem.lookup
      (wpAny_getItem_list_neg (Q := fun r s' => r = w ∧ EP X pins σ Q r s') pl.isList (by omega) (by rw [List.size_toArray] <;> omega) (by omega) (by rw [hj]; simpa using ew) ⟨rfl, fin⟩) hs
theorem zsb : IxR X (rIxT X.K) := by
  intro value slice pins s σ H x y v u Q I rx ry h hs
  obtain ⟨p, xs, i, z, rfl, rfl, hq, he, q⟩ := h
  cases rx
  obtain ⟨t, rfl⟩ := ry
  obtain ⟨its, r, pl, hz⟩ := I.tuple hq
  obtain ⟨j, h1, h2, h3, h4, h5⟩ := zl9 he
  obtain ⟨w, ew, rw'⟩ := r.get h2
  have hl := r.length
  have hn := zki
  have fin : EP X pins σ Q w s := ⟨z, H, I, rw', q⟩
  exact subscriptTail_builtinR (x := w) pl.typeIs slot_tuple_getitem.lookup
    (getItem_tuple (j := j) (Q := fun r s' => r = w ∧ EP X pins σ Q r s') pl (by omega) (by omega) (by rw [List.size_toArray, ← hl]; exact h1) (by simpa using ew) ⟨rfl, fin⟩) hs
theorem Inv.lst {pins : List (Addr × Obj)} {σ : St} {H : Hp} {s : Shared} {p : Addr} {xs : List V} (I : Inv X pins σ H s) (h : H p = some (.lst xs)) :
    ∃ (its : List Value) (n : Nat), Vals xs its ∧ s.heap.get? p = some { cls := .type "list", data := .seq its.toArray n } ∧ xs.length ≤ sizeLine := by
  obtain ⟨z, its, n, r, e⟩ := I.hok p _ h
  exact ⟨its, n, r, e, z⟩
theorem zh6 (lo hi : Option Int) (n : Nat) : (sliceBounds lo hi none n).1 = ((HT.sIx n 0 lo : Nat) : Int) ∧ (sliceBounds lo hi none n).2.1 = ((HT.sIx n n hi : Nat) : Int) ∧ (sliceBounds lo hi none n).2.2 = 1 := by
  refine ⟨?_, ?_, rfl⟩
  · cases lo with
    | none => simp [sliceBounds, HT.sIx]
    | some i =>
      simp only [sliceBounds, HT.sIx, Option.getD_none, show (1 : Int) > 0 by decide, if_true]
      by_cases h : i < 0
      · simp only [h, if_true] <;> omega
      · simp only [h, if_false] <;> omega
  · cases hi with
    | none => simp [sliceBounds, HT.sIx]
    | some i =>
      simp only [sliceBounds, HT.sIx, Option.getD_none, show (1 : Int) > 0 by decide, if_true]
      by_cases h : i < 0
      · simp only [h, if_true] <;> omega
      · simp only [h, if_false] <;> omega
theorem zg2 (its : List Value) (lo hi : Option Int) : slicePick its.toArray lo hi none = ((its.drop (HT.sIx its.length 0 lo)).take (HT.sIx its.length its.length hi - HT.sIx its.length 0 lo)).toArray := by
  obtain ⟨h1, h2, h3⟩ := zh6 lo hi its.toArray.size
  unfold slicePick
  rw [h1, h2, h3]
  simp only [sliceRange_one, pick_run, List.size_toArray] <;> rfl
noncomputable def rSlL (K : PySem.W.Frag) : V → Option Int → Option Int → Hp → VK → Prop := fun x lo hi H Q => ∃ a xs, x = .ref a ∧ SqL K H a xs ∧ ∀ p, H p = none → Q (.ref p) (upd H p (.lst (cutV xs lo hi)))
theorem zqi : SlR X (rSlL X.K) := by
  intro pins s σ H x v vl vu lo hi sl Q I rx hs pl pu h
  obtain ⟨a, xs, rfl, hx, q⟩ := h
  cases rx
  obtain ⟨its, r, ht, hz⟩ := I.list hx
  have hlen := r.length
  refine ⟨"list", _, slot_list_getitem.lookup, ht.isList.typeIs, ?_⟩
  refine wpAny_getItem_list_slice ht.isList hs pl pu .none (by simp) ?_ (by rw [List.size_toArray] <;> omega)
  rw [zg2, ← hlen]
  refine ⟨.ref s.heap.objs.size, _, I.laid (t' := s.toks) (o := .lst (cutV xs lo hi)) (fun b ob q => Heap.get?_push_of_some _ q) (Nat.le_refl _) ?_, rfl, q _ (I.hok.fresh (Nat.le_refl _))⟩
  exact ⟨Nat.le_trans (zjo xs lo hi) hz, _, 0, (r.drop (HT.sIx xs.length 0 lo)).take (HT.sIx xs.length xs.length hi - HT.sIx xs.length 0 lo), Heap.get?_push_size _ rfl⟩
theorem zeo : CallR X (.builtin "len") (fun xs H Q => ∃ p ys, xs = [.ref p] ∧ (SqL X.K H p ys ∨ SqT X.K H p ys) ∧ Q (.int ys.length) H) := by
  intro pins s σ H xs us Q I r h
  obtain ⟨p, ys, rfl, hq, q⟩ := h
  obtain ⟨u, rfl, rx⟩ := zf3 r
  cases rx
  have hn := zki
  rcases hq with hq | hq
  · obtain ⟨its, r', pl, hz⟩ := I.list hq
    have hlen := r'.length
    exact Calls.call_len_list pl.isList (by simp only [List.size_toArray] <;> omega) ⟨.int ys.length, H, I.tok _, ⟨s.toks + 1, by rw [List.size_toArray, hlen]⟩, q⟩
  · obtain ⟨its, r', pl, hz⟩ := I.tuple hq
    have hlen := r'.length
    exact len_tuple pl (by simp only [List.size_toArray] <;> omega) ⟨.int ys.length, H, I.tok _, ⟨s.toks + 1, by rw [List.size_toArray, hlen]⟩, q⟩
theorem CallR.or {f : Value} {r r' : List V → Hp → VK → Prop} (h : CallR X f r) (h' : CallR X f r') : CallR X f (fun xs H Q => r xs H Q ∨ r' xs H Q) := by
  intro pins s σ H xs us Q I rs q
  rcases q with q | q
  · exact h pins s σ H xs us Q I rs q
  · exact h' pins s σ H xs us Q I rs q
theorem zdx : CallR X (.type "tuple") (fun xs H Q => ∃ p ys, xs = [.ref p] ∧ ((SqL X.K H p ys ∧ ∀ l, H l = none → Q (.ref l) (upd H l (.tup ys))) ∨ (SqT X.K H p ys ∧ Q (.ref p) H))) := by
  intro pins s σ H xs us Q I r h
  obtain ⟨p, ys, rfl, h⟩ := h
  obtain ⟨u, rfl, rx⟩ := zf3 r
  cases rx
  rcases h with ⟨hq, q⟩ | ⟨hq, q⟩
  · obtain ⟨its, r', pl, hz⟩ := I.list hq
    have hlen := r'.length
    refine call_tuple_list pl.isList (fun h' kp => ?_) (by simp only [List.size_toArray] <;> omega)
    have I1 : Inv X pins σ H { s with heap := h' } := I.kept (t' := s.toks) kp
    have I2 : Inv X pins σ (upd H h'.objs.size (.tup ys)) { s with heap := h'.push { cls := .type "tuple", data := .seq its.toArray } } :=
      I1.laid (t' := s.toks) (fun b o e => Heap.get?_push_of_some _ e) (Nat.le_refl _) (show ObjOk X.prog X.w _ _ _ (.tup ys) from ⟨hz, its, r', IsTup.new _ _⟩)
    exact ⟨.ref h'.objs.size, _, I2, rfl, q _ (I1.hok.fresh (Nat.le_refl _))⟩
  · obtain ⟨its, r', pl, hz⟩ := I.tuple hq
    exact call_tuple_same pl ⟨.ref p, H, I, rfl, q⟩
noncomputable def tyV (K : PySem.W.Frag) (T : String) (x : V) (H : Hp) : Prop := match x with
  | .str _ => T = "str"
  | .int _ => T = "int"
  | .ref p => (T = "list" ∧ ∃ xs, SqL K H p xs) ∨ (T = "tuple" ∧ ∃ o, K.lookup p = some o ∧ o.cls = .type "tuple" ∧ o.dict = none) ∨
      (T = "dict" ∧ ((∃ kvs, H p = some (.dK kvs)) ∨ ∃ kvs, H p = some (.dT kvs))) ∨ (T = "set" ∧ ∃ S n, H p = some (.set S n))
  | _ => False
theorem zpu {pins : List (Addr × Obj)} {σ : St} {H : Hp} {s : Shared} {T : String} {x : V} {v : Value} (I : Inv X pins σ H s) (r : RelV x v) (ty : tyV X.K T x H) :
    s.TypeIs v T ∧ ∀ a, v = .ref a → ∃ ob, s.heap.get? a = some ob ∧ ob.dict = none := by
  cases x with
  | str z =>
    obtain ⟨t, rfl⟩ := r
    cases (show T = "str" from ty)
    exact ⟨typeIs_str s z t, fun _ e => nomatch e⟩
  | int i =>
    obtain ⟨t, rfl⟩ := r
    cases (show T = "int" from ty)
    exact ⟨typeIs_int s i t, fun _ e => nomatch e⟩
  | ref p =>
    cases r
    rcases ty with ⟨rfl, xs, hq⟩ | ⟨rfl, o, hk, hc, hd⟩ | ⟨rfl, hk⟩ | ⟨rfl, S, n, hk⟩
    · obtain ⟨its, _, pl, _⟩ := I.list hq
      refine ⟨pl.isList.typeIs, fun a e => ?_⟩
      cases e
      obtain ⟨o, n, e, c, hd, _⟩ := pl
      exact ⟨o, e, hd⟩
    · refine ⟨⟨o, I.kIn p o hk, hc⟩, fun a e => ?_⟩
      cases e
      exact ⟨o, I.kIn _ o hk, hd⟩
    · have z : ∃ o, s.heap.get? p = some o ∧ o.ExactDict := by
        rcases hk with ⟨kvs, hk⟩ | ⟨kvs, hk⟩
        · obtain ⟨_, _, _, _, o, _, _, e, ex, _⟩ := I.hok p _ hk
          exact ⟨o, e, ex⟩
        · obtain ⟨_, _, _, _, o, _, _, e, ex, _⟩ := I.hok p _ hk
          exact ⟨o, e, ex⟩
      obtain ⟨o, e, ex⟩ := z
      refine ⟨⟨o, e, ex.1⟩, fun a e2 => ?_⟩
      cases e2
      exact ⟨o, e, ex.2.1⟩
    · obtain ⟨o, _, _, _, e, ex, _⟩ := I.hok p _ hk
      refine ⟨⟨o, e, ex.1⟩, fun a e2 => ?_⟩
      cases e2
      exact ⟨o, e, ex.2.1⟩
  | _ => exact False.elim ty
noncomputable def tBM0 (K : PySem.W.Frag) (T : String) (r : V → List V → Hp → VK → Prop) (to : TE) : TE := fun σ H Q => to σ H fun x H1 => tyV K T x H1 ∧ r x [] H1 Q
noncomputable def tBM (K : PySem.W.Frag) (T : String) (r : V → List V → Hp → VK → Prop) (to : TE) (t : TA) : TE := fun σ H Q => to σ H fun x H1 => tyV K T x H1 ∧ t σ H1 fun xs H2 => r x xs H2 Q
variable {o e : Expr} {es : List Expr} {to : TE} {t : TA} {name : Str} {apos cpos : Pos} {T id : String} {r : V → List V → Hp → VK → Prop}
theorem zsc (pa : PlainAttrs T) (slot : Slot T name id) (hty : typeOf (.builtin id) = pure (.type "method_descriptor")) (hm : MtR X id r) (ho : PE X o to)
    (hbase : attributeBase o name X.env (eval o X.env) = eval o X.env := by rfl) (hline : (apos.endLine == cpos.line) = true := by rfl) : PE X (.Call (.Attribute o name apos) [] [] cpos) (tBM0 X.K T r to) := by
  intro pins s σ H Q I h
  refine wpAny_Call_method0_late hbase hline (thn (ho pins s σ H _ I h) fun v s1 ⟨x, H1, I1, r1, ty, q1⟩ => ?_)
  obtain ⟨h1, h2⟩ := zpu I1 r1 ty
  exact ⟨T, id, pa, slot, hty, h1, h2, Calls.callWith_builtin rfl (PySem.evalArgs_none (hm pins s1 σ H1 x [] v [] Q I1 r1 .nil q1))⟩
theorem zsd (pa : PlainAttrs T) (slot : Slot T name id) (hty : typeOf (.builtin id) = pure (.type "method_descriptor")) (hm : MtR X id r) (ho : PE X o to) (ha : PA X (e :: es) t)
    (hbase : attributeBase o name X.env (eval o X.env) = eval o X.env := by rfl)
    (hfew : ((backTo cpos (starEach (e :: es) X.env)).all (fun x => !x.1) && (backToKw cpos (keywordEach [] X.env)).all (fun x => x.1.isSome)
      && decide ((e :: es).length + ([] : List Keyword).length + (if ([] : List Keyword).isEmpty then 0 else 1) < 30)) = true := by rfl)
    (hline : (apos.endLine == cpos.line) = true := by rfl) (hs : starEach (e :: es) X.env = (false, eval e X.env) :: starEach es X.env := by rfl) (hplain : (backTo cpos (starEach es X.env)).any (·.1) = false := by rfl) :
    PE X (.Call (.Attribute o name apos) (e :: es) [] cpos) (tBM X.K T r to t) := by
  intro pins s σ H Q I h
  refine wpAny_Call_method_late hbase hfew hline rfl (thn (ho pins s σ H _ I h) fun v s1 ⟨x, H1, I1, r1, ty, q1⟩ => ?_)
  obtain ⟨h1, h2⟩ := zpu I1 r1 ty
  refine ⟨T, id, pa, slot, hty, h1, h2, ?_⟩
  have hA := ha cpos pins s1 σ H1 _ I1 q1
  rw [hs] at hA ⊢
  refine Calls.callWith_builtin (by show (false || (backTo cpos (starEach es X.env)).any (·.1)) = false; rw [hplain] <;> rfl) (Calls.evalArgs_plain ?_)
  exact thn hA fun us s2 ⟨vs, H2, I2, r2, q2⟩ => hm pins s2 σ H2 x vs v us Q I2 r1 r2 q2
end
end L2
namespace L2
open PySem PySem.Spec PyProof.Rows
noncomputable def MtM (X : Cx) (id : String) (r : V → List V → Hp → VK → Prop) : Prop :=
  ∀ (pins : List (Addr × Obj)) (s : Shared) (σ : St) (H : Hp) (x : V) (xs : List V) (v : Value) (us : List Value) (Q : VK), Inv X pins σ H s → RelV x v → Vals xs us → r x xs H Q →
    wpAny (model X.prog X.w) X.A (call (.builtin id) (v :: us)) (EP X pins σ Q) X.xe s
theorem Vals.one : ∀ {x : V} {us : List Value}, Vals [x] us → ∃ u, us = [u] ∧ RelV x u
  | _, _, .cons r .nil => ⟨_, rfl, r⟩
theorem Vals.two : ∀ {x y : V} {us : List Value}, Vals [x, y] us → ∃ u v, us = [u, v] ∧ RelV x u ∧ RelV y v
  | _, _, _, .cons r (.cons q .nil) => ⟨_, _, rfl, r, q⟩
theorem Vals.zero : ∀ {us : List Value}, Vals [] us → us = []
  | _, .nil => rfl
theorem Vals.rep {xs : List V} {us : List Value} (h : Vals xs us) : ∀ k : Nat, Vals (List.replicate k xs).flatten (List.replicate k us).flatten
  | 0 => .nil
  | k + 1 => by
    rw [List.replicate_succ, List.replicate_succ, List.flatten_cons, List.flatten_cons]
    exact Vals.append h (Vals.rep h k)
section
variable {X : Cx} {pins : List (Addr × Obj)} {σ : St} {H : Hp} {s : Shared} {l b : Addr} {xs ys zs : List V}
theorem Inv.lset {its its' : List Value} {n : Nat} {f : Array Value → Array Value} {t' : Nat} (I : Inv X pins σ H s) (hH : H l = some (.lst xs))
    (e : s.heap.get? l = some { cls := .type "list", data := .seq its.toArray n }) (hf : f its.toArray = its'.toArray) (hv : Vals ys its') (hz : ys.length ≤ sizeLine) :
    Inv X pins σ (upd H l (.lst ys)) { s with heap := s.heap.update l (Obj.mapSeq f), toks := t' } := by
  have q := PySem.IsL.update e f
  rw [hf] at q
  refine I.write (x := l) (e := l) (by rw [hH]; exact trivial) (.inl rfl) (fun b' u hb hu => (Heap.get?_update_other s.heap (Obj.mapSeq f) (Ne.symm hb)).trans hu) ⟨_, q⟩ ?_
  exact ⟨hz, its', _, hv, q⟩
theorem Inv.lnew {its : List Value} {t' : Nat} (I : Inv X pins σ H s) (hv : Vals ys its) (hz : ys.length ≤ sizeLine) :
    Inv X pins σ (upd H s.heap.objs.size (.lst ys)) { s with heap := s.heap.push { cls := .type "list", data := .seq its.toArray }, toks := t' } :=
  I.laid (fun _ _ q => Heap.get?_push_of_some _ q) (Nat.le_refl _) ⟨hz, its, 0, hv, Heap.get?_push_size _ rfl⟩
theorem Inv.fresh (I : Inv X pins σ H s) : H s.heap.objs.size = none := I.hok.fresh (Nat.le_refl _)
theorem Inv.lstM (I : Inv X pins σ H s) (hH : H l = some (.lst xs)) : xs.length ≤ sizeLine ∧ ∃ (its : List Value) (n : Nat), Vals xs its ∧ xs.length = its.length ∧ s.heap.get? l = some { cls := .type "list", data := .seq its.toArray n } := by
  obtain ⟨z, its, n, r, e⟩ := I.hok l _ hH
  exact ⟨z, its, n, r, r.length, e⟩
end
section
variable {X : Cx}
noncomputable def zqj : V → List V → Hp → VK → Prop := fun x vs H Q => ∃ l xs y, x = .ref l ∧ vs = [y] ∧ H l = some (.lst xs) ∧ xs.length < sizeLine ∧ Q .non (upd H l (.lst (xs ++ [y])))
theorem zh7 : MtM X "list.append" zqj := by
  intro pins s σ H x vs v us Q I rx rv h
  obtain ⟨l, xs, y, rfl, rfl, hH, hz, q⟩ := h
  cases rx
  obtain ⟨u, rfl, ru⟩ := rv.one
  obtain ⟨z, its, n, r, hl, e⟩ := I.lstM hH
  refine call_meets F.slot_list_append ⟨_, e, rfl⟩ F.entry_list_append (F.args_list_append_2 _ _) (PySem.list_append l its.toArray n u (by rw [List.size_toArray]; omega)) ⟨e, ?_⟩
  refine ⟨.non, _, I.lset (its' := its ++ [u]) hH e (by simp) (r.append (.cons ru .nil)) ?_, rfl, q⟩
  rw [List.length_append, List.length_singleton]
  omega
end
end L2
namespace L2
open PySem PySem.Spec PyProof.Rows
section
variable {κ : Type} [DecidableEq κ]
noncomputable def valV (kvs : List (κ × V)) (k : κ) : Option V := (kvs.find? fun kv => decide (kv.1 = k)).map (·.2)
noncomputable def putK (kvs : List (κ × V)) (k : κ) (v : V) : List (κ × V) :=
  if (kvs.any fun kv => decide (kv.1 = k)) = true then kvs.map (fun kv => if kv.1 = k then (kv.1, v) else kv) else kvs ++ [(k, v)]
noncomputable def zse (kvs : List (κ × V)) (k : κ) : List (κ × V) := kvs.filter fun kv => decide (kv.1 ≠ k)
theorem zdy {p : κ × V} {r : List (κ × V)} {k : κ} (e : p.1 = k) : valV (p :: r) k = some p.2 := by simp [valV, List.find?_cons, e]
theorem zdz {p : κ × V} {r : List (κ × V)} {k : κ} (e : ¬ p.1 = k) : valV (p :: r) k = valV r k := by simp [valV, List.find?_cons, e]
theorem zeP (k : κ) : ∀ kvs : List (κ × V), (kvs.any fun kv => decide (kv.1 = k)) = (valV kvs k).isSome
  | [] => rfl
  | p :: r => by
    rw [List.any_cons]
    by_cases e : p.1 = k
    · simp only [zdy e, decide_eq_true e, Bool.true_or, Option.isSome_some]
    · rw [zdz e, decide_eq_false e, Bool.false_or]; exact zeP k r
theorem ze1 (kvs : List (κ × V)) (k : κ) (v : V) : (putK kvs k v).length ≤ kvs.length + 1 := by
  unfold putK
  split
  · rw [List.length_map]; omega
  · rw [List.length_append, List.length_cons, List.length_nil]; omega
theorem RelO.isSome_eq {o : Option V} {u : Option Value} (r : RelO o u) : o.isSome = u.isSome := by
  cases o with
  | none => cases u with
    | none => rfl
    | some _ => exact (show False from r).elim
  | some _ => cases u with
    | none => exact (show False from r).elim
    | some _ => rfl
theorem RelO.getD {o : Option V} {u : Option Value} {d : V} {d' : Value} (r : RelO o u) (rd : RelV d d') : RelV (o.getD d) (u.getD d') := by
  cases o with
  | none => cases u with
    | none => exact rd
    | some _ => exact (show False from r).elim
  | some _ => cases u with
    | none => exact (show False from r).elim
    | some _ => exact r
theorem KV.val {kvs : List (κ × V)} {vs : List (κ × Value)} (r : KV kvs vs) (k : κ) : RelO (valV kvs k) (valueAt vs k) := by
  unfold KV at r
  induction r with
  | nil => exact True.intro
  | @cons p q ps qs h t ih =>
    obtain ⟨h1, h2⟩ := h
    by_cases e : p.1 = k
    · have e' : q.1 = k := h1.symm.trans e
      have b : valueAt (q :: qs) k = some q.2 := by simp [valueAt, List.find?_cons, e']
      rw [zdy e, b]; exact h2
    · have e' : ¬ q.1 = k := fun z => e (h1.trans z)
      have b : valueAt (q :: qs) k = valueAt qs k := by simp [valueAt, List.find?_cons, e']
      rw [zdz e, b]; exact ih
theorem KV.any {kvs : List (κ × V)} {vs : List (κ × Value)} (r : KV kvs vs) (k : κ) : (kvs.any fun kv => decide (kv.1 = k)) = vs.any fun kv => decide (kv.1 = k) := by
  unfold KV at r
  induction r with
  | nil => rfl
  | cons h t ih => rw [List.any_cons, List.any_cons, ih, h.1]
theorem KV.repl {kvs : List (κ × V)} {vs : List (κ × Value)} (r : KV kvs vs) (k : κ) {y : V} {u : Value} (ry : RelV y u) :
    KV (kvs.map fun kv => if kv.1 = k then (kv.1, y) else kv) (vs.map fun kv => if kv.1 = k then (kv.1, u) else kv) := by
  unfold KV at r ⊢
  induction r with
  | nil => exact .nil
  | @cons p q ps qs h t ih =>
    rw [List.map_cons, List.map_cons]
    refine .cons ?_ ih
    obtain ⟨h1, h2⟩ := h
    by_cases e : p.1 = k
    · rw [if_pos e, if_pos (h1.symm.trans e)]; exact ⟨h1, ry⟩
    · rw [if_neg e, if_neg (fun z => e (h1.trans z))]; exact ⟨h1, h2⟩
theorem KV.put {kvs : List (κ × V)} {vs : List (κ × Value)} (r : KV kvs vs) (k : κ) {y : V} {u : Value} (ry : RelV y u) : KV (putK kvs k y) (stored vs k u) := by
  unfold putK stored
  rw [r.any k]
  by_cases e : (vs.any fun kv => decide (kv.1 = k)) = true
  · rw [if_pos e, if_pos e]; exact r.repl k ry
  · rw [if_neg e, if_neg e]; exact Paired.snoc r ⟨rfl, ry⟩
theorem KV.drop {kvs : List (κ × V)} {vs : List (κ × Value)} (r : KV kvs vs) (k : κ) : KV (zse kvs k) (without vs k) := by
  unfold KV at r ⊢
  unfold zse without
  induction r with
  | nil => exact .nil
  | @cons p q ps qs h t ih =>
    obtain ⟨h1, h2⟩ := h
    rw [List.filter_cons, List.filter_cons]
    by_cases e : p.1 = k
    · have a : ¬ decide (p.1 ≠ k) = true := by simp [e]
      have b : ¬ decide (q.1 ≠ k) = true := by simp [h1.symm.trans e]
      rw [if_neg a, if_neg b]; exact ih
    · have e' : ¬ q.1 = k := fun z => e (h1.trans z)
      have a : decide (p.1 ≠ k) = true := by simp [e]
      have b : decide (q.1 ≠ k) = true := by simp [e']
      rw [if_pos a, if_pos b]; exact .cons ⟨h1, h2⟩ ih
theorem KV.keys {kvs : List (κ × V)} {vs : List (κ × Value)} (r : KV kvs vs) : kvs.map (·.1) = vs.map (·.1) := by
  unfold KV at r
  induction r with
  | nil => rfl
  | cons h t ih => rw [List.map_cons, List.map_cons, ih, h.1]
theorem KV.length {kvs : List (κ × V)} {vs : List (κ × Value)} (r : KV kvs vs) : kvs.length = vs.length := Paired.length r
end
theorem zmb {P : Program} {w : World} {k : Key} {u : Value} (r : RelV (kV k) u) : (zav P w).is k u = true := by
  cases k with
  | inl i => obtain ⟨t, e⟩ := (show ∃ t, u = Value.int i t from r); subst e; exact zjl P w i t
  | inr x => obtain ⟨t, e⟩ := (show ∃ t, u = Value.str x t from r); subst e; exact zjm P w x t
theorem zh8 {P : Program} {w : World} : ∀ {ks : List Key} {us : List Value}, Vals (ks.map kV) us → ItemsAre (zav P w) ks us
  | [], _, r => by rw [List.map_nil] at r; cases r; exact .nil
  | k :: ks, _, r => by
    rw [List.map_cons] at r
    cases r with
    | cons h t => exact .cons (zmb h) (zh8 t)
noncomputable abbrev KT (H : Hp) : List (List Key × V) → List (List Key × Addr × Value) → Prop := Paired fun p q => p.1 = q.1 ∧ H q.2.1 = some (.tup (p.1.map kV)) ∧ RelV p.2 q.2.2
theorem KT.val {H : Hp} {kvs : List (List Key × V)} {xs : List (List Key × Addr × Value)} (r : KT H kvs xs) (k : List Key) : RelO (valV kvs k) ((atKey xs k).map (·.2)) := by
  induction r with
  | nil => exact True.intro
  | @cons p q ps qs h t ih =>
    obtain ⟨h1, _, h2⟩ := h
    by_cases e : p.1 = k
    · have e' : q.1 = k := h1.symm.trans e
      have b : atKey (q :: qs) k = some q.2 := by simp [atKey, List.find?_cons, e']
      rw [zdy e, b]; exact h2
    · have e' : ¬ q.1 = k := fun z => e (h1.trans z)
      have b : atKey (q :: qs) k = atKey qs k := by simp [atKey, List.find?_cons, e']
      rw [zdz e, b]; exact ih
theorem KT.repl {H : Hp} {kvs : List (List Key × V)} {xs : List (List Key × Addr × Value)} (r : KT H kvs xs) (k : List Key) {y : V} {u : Value} (ry : RelV y u) :
    KT H (kvs.map fun kv => if kv.1 = k then (kv.1, y) else kv) (xs.map (putAt k u)) := by
  induction r with
  | nil => exact .nil
  | @cons p q ps qs h t ih =>
    rw [List.map_cons, List.map_cons]
    refine .cons ?_ ih
    obtain ⟨h1, h2, h3⟩ := h
    unfold putAt
    by_cases e : p.1 = k
    · rw [if_pos e, if_pos (h1.symm.trans e)]; exact ⟨h1, h2, ry⟩
    · rw [if_neg e, if_neg (fun z => e (h1.trans z))]; exact ⟨h1, h2, h3⟩
theorem KT.put {H : Hp} {kvs : List (List Key × V)} {xs : List (List Key × Addr × Value)} (r : KT H kvs xs) (k : List Key) {b : Addr} {y : V} {u : Value} (hb : H b = some (.tup (k.map kV))) (ry : RelV y u) :
    KT H (putK kvs k y) (storedH xs k b u) := by
  have e : (kvs.any fun kv => decide (kv.1 = k)) = (atKey xs k).isSome := by
    rw [zeP, (r.val k).isSome_eq, Option.isSome_map]
  unfold putK storedH
  rw [e]
  by_cases q : (atKey xs k).isSome = true
  · rw [if_pos q, if_pos q]; exact r.repl k ry
  · rw [if_neg q, if_neg q]; exact Paired.snoc r ⟨rfl, hb, ry⟩
theorem KT.keeps {H H' : Hp} {kvs : List (List Key × V)} {xs : List (List Key × Addr × Value)} (r : KT H kvs xs) (ht : ∀ b ys, H b = some (.tup ys) → H' b = some (.tup ys)) : KT H' kvs xs :=
  Paired.mapP r fun _ _ z => ⟨z.1, ht _ _ z.2.1, z.2.2⟩
section
variable {P : Program} {w : World} {H : Hp} {h : Heap} {a : Addr}
theorem zsf {u : HO} (ok : HOk P w H h) (e : Rd H a u) : ObjOk P w H h a u := e.ok ok
theorem zlh {kvs : List (Key × V)} (ok : HOk P w H h) (e : Rd H a (.dK kvs)) : kvs.length ≤ sizeLine ∧ (a == sysModules) = false ∧ ∃ vs, KV kvs vs ∧ h.DictOf (zav P w) a vs :=
  show ObjOk P w H h a (.dK kvs) from zsf ok e
theorem zv1 {kvs : List (Key × V)} (ok : HOk P w H h) (e : H a = some (.dK kvs)) : kvs.length ≤ sizeLine ∧ (a == sysModules) = false ∧ ∃ vs, KV kvs vs ∧ h.DictOf (zav P w) a vs := zlh ok (.inl e)
theorem zgu {ks : List Key} (ok : HOk P w H h) (e : H a = some (.tup (ks.map kV))) : (tupleKind (zav P w)).is h ks a := by
  obtain ⟨_, its, r, o, h1, h2, n, h3⟩ := (show ObjOk P w H h a (.tup (ks.map kV)) from ok a _ e)
  exact ⟨o, its.toArray, n, h1, h2, h3, by simpa using zh8 r⟩
theorem zli {kvs : List (List Key × V)} (ok : HOk P w H h) (e : Rd H a (.dT kvs)) : kvs.length ≤ sizeLine ∧ (a == sysModules) = false ∧
    ∃ xs, KT H kvs xs ∧ h.DictOfH (tupleKind (zav P w)) a xs := by
  obtain ⟨z, y, xs, r, o, es, ep, h1, h2, h3, h4, h5⟩ := (show ObjOk P w H h a (.dT kvs) from zsf ok e)
  refine ⟨z, y, xs, r, o, es, ep, h1, h2, h3, h4, fun x hx => ?_, h5⟩
  have all : ∀ {l : List (List Key × V)} {m : List (List Key × Addr × Value)}, KT H l m → ∀ x ∈ m, (tupleKind (zav P w)).is h x.1 x.2.1 := by
    intro l m q
    induction q with
    | nil => intro x hx; exact nomatch hx
    | @cons p q ps qs hq t ih =>
      intro x hx
      rcases List.mem_cons.mp hx with e | hx
      · subst e
        exact zgu ok (by rw [← hq.1]; exact hq.2.1)
      · exact ih x hx
  exact all r x hx
theorem zmc {kvs : List (List Key × V)} (ok : HOk P w H h) (e : H a = some (.dT kvs)) : kvs.length ≤ sizeLine ∧ (a == sysModules) = false ∧
    ∃ xs, KT H kvs xs ∧ h.DictOfH (tupleKind (zav P w)) a xs := zli ok (.inl e)
end
noncomputable def DGet (H : Hp) (a : Addr) (y : V) (r : Option V) : Prop :=
  (∃ kvs k, Rd H a (.dK kvs) ∧ y = kV k ∧ r = valV kvs k) ∨ ∃ kvs k b, Rd H a (.dT kvs) ∧ y = .ref b ∧ H b = some (.tup (k.map kV)) ∧ r = valV kvs k
noncomputable def DPut (H : Hp) (a : Addr) (y v : V) (H' : Hp) : Prop :=
  (∃ kvs k, H a = some (.dK kvs) ∧ y = kV k ∧ kvs.length < sizeLine ∧ H' = upd H a (.dK (putK kvs k v))) ∨
  ∃ kvs k b, H a = some (.dT kvs) ∧ y = .ref b ∧ H b = some (.tup (k.map kV)) ∧ kvs.length < sizeLine ∧ H' = upd H a (.dT (putK kvs k v))
theorem DGet.k {H : Hp} {a : Addr} {kvs : List (Key × V)} {k : Key} (e : H a = some (.dK kvs)) : DGet H a (kV k) (valV kvs k) := .inl ⟨kvs, k, .inl e, rfl, rfl⟩
theorem DGet.t {H : Hp} {a b : Addr} {kvs : List (List Key × V)} {k : List Key} (e : H a = some (.dT kvs)) (eb : H b = some (.tup (k.map kV))) : DGet H a (.ref b) (valV kvs k) := .inr ⟨kvs, k, b, .inl e, rfl, eb, rfl⟩
theorem DPut.k {H : Hp} {a : Addr} {kvs : List (Key × V)} {k : Key} {v : V} (e : H a = some (.dK kvs)) (hl : kvs.length < sizeLine) : DPut H a (kV k) v (upd H a (.dK (putK kvs k v))) := .inl ⟨kvs, k, e, rfl, hl, rfl⟩
theorem DPut.t {H : Hp} {a b : Addr} {kvs : List (List Key × V)} {k : List Key} {v : V} (e : H a = some (.dT kvs)) (eb : H b = some (.tup (k.map kV))) (hl : kvs.length < sizeLine) :
    DPut H a (.ref b) v (upd H a (.dT (putK kvs k v))) := .inr ⟨kvs, k, b, e, rfl, eb, hl, rfl⟩
section
variable {X : Cx} {pins : List (Addr × Obj)} {σ : St} {H : Hp} {s : Shared} {a : Addr} {y v : V} {u r : Value} {o : Option V} {A : Around} {E : Value → Shared → Prop}
theorem Inv.big (I : Inv X pins σ H s) : sysModules < s.heap.objs.size := by
  have h : mainGlobals < s.heap.objs.size := (I.mod.glob.keeps I.bk).lt
  exact Nat.lt_trans (by decide) h
theorem zmd {Q : Value → Shared → Prop} (hu : A.units + 1 < cLine) (I : Inv X pins σ H s) (g : DGet H a y (some v)) (ry : RelV y u) (h : ∀ w' s', Inv X pins σ H s' → RelV v w' → Q w' s') :
    wpAny (model X.prog X.w) A (getItem (.ref a) u) Q E s := by
  rcases g with ⟨kvs, k, e, ey, l⟩ | ⟨kvs, k, b, e, ey, eb, l⟩
  · subst ey
    obtain ⟨z, hd, vs, rel, dd⟩ := zlh I.hok e
    obtain ⟨w', hw, rw'⟩ := RelO.some_of (v := v) (o := valueAt vs k) (by rw [l]; exact rel.val k)
    exact wpAny_getItem_of (zmb ry) dd.mapOf hw (h w' _ (I.tok _) rw')
  · subst ey
    cases (show u = Value.ref b from ry)
    obtain ⟨z, hd, xs, rel, dd⟩ := zli I.hok e
    obtain ⟨w', hw, rw'⟩ := RelO.some_of (v := v) (o := (atKey xs k).map (·.2)) (by rw [l]; exact rel.val k)
    obtain ⟨p, hp, hp2⟩ := jo2.mp hw
    refine wpAny_getItem_heap (tupleKind_room_in1 hu) (zgu I.hok eb) dd hp ?_
    rw [hp2]
    exact h w' _ (I.tok _) rw'
theorem d_in {Q : Value → Shared → Prop} (hu : A.units + 1 < cLine) (I : Inv X pins σ H s) (g : DGet H a y o) (ry : RelV y u) (h : ∀ s', Inv X pins σ H s' → Q (.bool o.isSome) s') :
    wpAny (model X.prog X.w) A (compareOp .In u (.ref a)) Q E s := by
  rcases g with ⟨kvs, k, e, ey, l⟩ | ⟨kvs, k, b, e, ey, eb, l⟩
  · subst ey
    obtain ⟨z, hd, vs, rel, dd⟩ := zlh I.hok e
    refine wpAny_in_of (zmb ry) hd dd.mapOf ?_
    rw [← (rel.val k).isSome_eq, ← l]
    exact h _ (I.tok _)
  · subst ey
    cases (show u = Value.ref b from ry)
    obtain ⟨z, hd, xs, rel, dd⟩ := zli I.hok e
    refine wpAny_in_heap (tupleKind_room_in1 hu) (zgu I.hok eb) hd dd ?_
    have q := (rel.val k).isSome_eq
    rw [Option.isSome_map] at q
    rw [← q, ← l]
    exact h _ (I.tok _)
theorem zme {Q : Value → Shared → Prop} (hu : A.units + 1 < cLine) (I : Inv X pins σ H s) (g : DGet H a y o) (ry : RelV y u) (h : ∀ s', Inv X pins σ H s' → Q (.bool (!o.isSome)) s') :
    wpAny (model X.prog X.w) A (compareOp .NotIn u (.ref a)) Q E s := by
  rcases g with ⟨kvs, k, e, ey, l⟩ | ⟨kvs, k, b, e, ey, eb, l⟩
  · subst ey
    obtain ⟨z, hd, vs, rel, dd⟩ := zlh I.hok e
    refine wpAny_notIn_of (zmb ry) hd dd.mapOf ?_
    rw [← (rel.val k).isSome_eq, ← l]
    exact h _ (I.tok _)
  · subst ey
    cases (show u = Value.ref b from ry)
    obtain ⟨z, hd, xs, rel, dd⟩ := zli I.hok e
    refine wpAny_notIn_heap (tupleKind_room_in1 hu) (zgu I.hok eb) hd dd ?_
    have q := (rel.val k).isSome_eq
    rw [Option.isSome_map] at q
    rw [← q, ← l]
    exact h _ (I.tok _)
theorem zg3 {h' : Heap} {t' : Nat} {ob : HO} (I : Inv X pins σ H s) (mu : Mut (H a)) (hs : Heap.SameBut a s.heap h') (he : ∃ q, h'.get? a = some q) (new : ObjOk X.prog X.w (upd H a ob) h' a ob) :
    Inv X pins σ (upd H a ob) { s with heap := h', toks := t' } :=
  I.write (x := a) (e := a) mu (.inl rfl) (fun b q hb z => (hs.2 b hb).trans z) he new
theorem zsg {P : Program} {w : World} {H' : Hp} {h' : Heap} {kvs : List (Key × V)} {vs : List (Key × Value)} (z : kvs.length ≤ sizeLine) (hd : (a == sysModules) = false) (rel : KV kvs vs) (dd : h'.DictOf (zav P w) a vs) :
    ObjOk P w H' h' a (.dK kvs) := ⟨z, hd, vs, rel, dd⟩
theorem zmf {H' : Hp} {Q : Unit → Shared → Prop} (hu : A.units + 1 < cLine) (I : Inv X pins σ H s) (g : DPut H a y v H') (ry : RelV y u) (rv : RelV v r) (h : ∀ s', Inv X pins σ H' s' → Q () s') :
    wpAny (model X.prog X.w) A (setItem (.ref a) u r) Q E s := by
  rcases g with ⟨kvs, k, e, ey, l, eH⟩ | ⟨kvs, k, b, e, ey, eb, l, eH⟩
  · subst ey eH
    obtain ⟨z, hd, vs, rel, dd⟩ := zv1 I.hok e
    have hz : vs.length ≤ sizeLine := by rw [← rel.length]; exact z
    have hl : (putK kvs k v).length ≤ sizeLine := by have := ze1 kvs k v; omega
    refine wpAny_setItem_pairs (hsz := hz) (zmb ry) dd fun h' dd' hs => h _ ?_
    have he : ∃ q, h'.get? a = some q := let ⟨q, _, _, hq, _⟩ := dd'; ⟨q, hq⟩
    exact zg3 I (by rw [e]; exact True.intro) hs he (zsg hl hd (rel.put k rv) dd')
  · subst ey eH
    cases (show u = Value.ref b from ry)
    obtain ⟨z, hd, xs, rel, dd⟩ := zmc I.hok e
    have hz : xs.length ≤ sizeLine := by rw [← Paired.length rel]; exact z
    have hl : (putK kvs k v).length ≤ sizeLine := by have := ze1 kvs k v; omega
    refine wpAny_setItem_heap (hsz := hz) (tupleKind_room_in1 hu) (zgu I.hok eb) dd fun h' dd' hs => h _ ?_
    obtain ⟨q, es, ep, hq, h2, h3, h4, _, h5⟩ := dd'
    refine zg3 I (by rw [e]; exact True.intro) hs ⟨q, hq⟩ ⟨hl, hd, _, (rel.put k eb rv).keeps fun c ys ec => ?_, q, es, ep, hq, h2, h3, h4, h5⟩
    rw [zaS (zpZ ec e (fun z => nomatch z))]
    exact ec
end
theorem zjp {X : Cx} {pins : List (Addr × Obj)} {σ : St} {H : Hp} {s : Shared} {a : Addr} {y : V} {o : Option V} (I : Inv X pins σ H s) (g : DGet H a y o) : s.TypeIs (.ref a) "dict" := by
  rcases g with ⟨kvs, k, e, _, _⟩ | ⟨kvs, k, b, e, _, _, _⟩
  · obtain ⟨_, _, vs, _, dd⟩ := zlh I.hok e
    exact dd.typeIs
  · obtain ⟨_, _, xs, _, dd⟩ := zli I.hok e
    exact dd.typeIs
noncomputable def zv2 (td ty tv : TE) : TS := fun D σ H => tv σ H fun v H1 => td σ H1 fun x H2 => ty σ H2 fun y H3 => ∃ a H4, x = .ref a ∧ DPut H3 a y v H4 ∧ D.nx σ H4
section
variable {X : Cx} {o i e value : Expr} {pos pos' tpos : Pos} {td ty tv : TE}
theorem zqk (hu : X.A.units + 1 < cLine) (ho : PE X o td) (hi : PE X i ty) (hv : PE X value tv) (hs : swapsWith value (some (.Subscript o i pos')) pos.line X.env = pure false) :
    PS X (.Assign [.Subscript o i pos'] value pos) (zv2 td ty tv) := by
  intro pins s σ H D I h
  refine wpAny_Assign_Subscript (thn (hv pins s σ H _ I h) fun r s1 ⟨v, H1, I1, rv, q1⟩ => thn (ho pins s1 σ H1 _ I1 q1) fun u s2 ⟨x, H2, I2, rx, q2⟩ => thn (hi pins s2 σ H2 _ I2 q2) fun iv s3 ⟨y, H3, I3, ry, a, H4, ex, g, q3⟩ => ?_) hs
  subst ex
  obtain rfl : u = Value.ref a := rx
  exact zmf hu I3 g ry rv fun s4 I4 => ⟨σ, H4, I4, q3⟩
end
theorem zn7 {P : Program} {w : World} {H : Hp} (h : Heap) (hb : sysModules < h.objs.size) : ObjOk P w H (h.push { cls := .type "dict", data := .dict #[] }) h.objs.size (.dK []) :=
  ⟨Nat.zero_le _, beq_eq_false_iff_ne.mpr (Ne.symm (Nat.ne_of_lt hb)), [], .nil, Heap.DictOf.new h⟩
theorem zkk {P : Program} {w : World} {H : Hp} (h : Heap) (hb : sysModules < h.objs.size) : ObjOk P w H (h.push { cls := .type "dict", data := .dict #[] }) h.objs.size (.dT []) :=
  ⟨Nat.zero_le _, beq_eq_false_iff_ne.mpr (Ne.symm (Nat.ne_of_lt hb)), [], .nil, _, #[], 0, Heap.get?_push_size _ rfl, ⟨rfl, rfl, rfl⟩, rfl, rfl, List.nodup_nil⟩
noncomputable def zsh : TE := fun _ H Q => ∀ p, H p = none → Q (.ref p) (upd H p (.dK []))
noncomputable def zsi : TE := fun _ H Q => ∀ p, H p = none → Q (.ref p) (upd H p (.dT []))
section
variable {X : Cx} {pos : Pos}
theorem zn8 : PE X (.Dict [] [] pos) zsh := fun pins s σ H Q I h =>
  wpAny_Dict_empty ⟨.ref s.heap.objs.size, _, I.laid (a := s.heap.objs.size) (o := .dK []) (t' := s.toks) (fun _ _ q => Heap.get?_push_of_some _ q) (Nat.le_refl _) (zn7 s.heap I.big), rfl, h _ (I.hok.fresh (Nat.le_refl _))⟩
theorem zn9 : PE X (.Dict [] [] pos) zsi := fun pins s σ H Q I h =>
  wpAny_Dict_empty ⟨.ref s.heap.objs.size, _, I.laid (a := s.heap.objs.size) (o := .dT []) (t' := s.toks) (fun _ _ q => Heap.get?_push_of_some _ q) (Nat.le_refl _) (zkk s.heap I.big), rfl, h _ (I.hok.fresh (Nat.le_refl _))⟩
end
noncomputable def zsj (kvs more : List (Key × V)) : List (Key × V) := more.foldl (fun acc kv => putK acc kv.1 kv.2) kvs
theorem KV.merge : ∀ {more : List (Key × V)} {rs : List (Key × Value)} {kvs : List (Key × V)} {vs : List (Key × Value)}, KV more rs → KV kvs vs → KV (zsj kvs more) (merged vs rs) := by
  intro more rs kvs vs r
  unfold KV at r
  induction r generalizing kvs vs with
  | nil => intro q; exact q
  | @cons p q ps qs h t ih =>
    intro r0
    have e : KV (putK kvs p.1 p.2) (stored vs q.1 q.2) := by
      have := r0.put p.1 h.2
      rw [← h.1]; exact this
    exact ih e
end L2
namespace Att
open PySem PySem.W PySem.Calls PyProof.Rows
theorem ze2 {P : Params} {h : Heap} : ∀ (ns : List Int) (vs : List Value), WellAll P h vs (ns.map WData.int) → IntsAre vs ns := by
  intro ns
  induction ns with
  | nil =>
    intro vs w
    rw [List.map_nil] at w
    cases w
    exact .nil
  | cons n ns ih =>
    intro vs w
    rw [List.map_cons] at w
    cases w with
    | cons a b =>
      cases a
      exact .cons _ _ (ih _ b)
theorem zmg {l : OpenLaw} {n : Nat} (hn : l.most = some n) {P : Params} {h : Heap} {args : List WData} {vals : List Value}
    (hpre : l.row.toRowW.claim.pre args = true) (hwl : WellAll P h vals args) :
    ∃ a vs ns, vals = [Value.ref a] ∧ args = [WData.list (ns.map WData.int)] ∧ h.get? a = some { cls := .type "list", data := .seq vs.toArray } ∧ IntsAre vs ns ∧ ns.length ≤ n := by
  have hsh : WShape.hasAll [] args [.list .int] = true := (pre_splitW hpre).1
  have hc : l.pre.holds [] { args := args } = true := (pre_splitW hpre).2
  obtain ⟨d, r, rfl, h1, h2⟩ := hasAllW_cons hsh
  obtain rfl := hasAllW_nil h2
  obtain ⟨xs, rfl, h3⟩ := hasW_list h1
  obtain ⟨ns, rfl⟩ := items_int h3
  have hlen : ns.length ≤ n := by
    unfold OpenLaw.pre at hc
    have h4 : (WTm.not (.lt (.lit (.int (n : Int))) (.len (.arg 0)))).holds [] { args := [.list (ns.map .int)] } = true := by
      have h4 := (holds_andW hc).1
      rw [hn] at h4
      exact h4
    have h5 := condW_of h4 (w_not (w_lt w_lit (w_len_list (w_arg rfl))))
    rw [List.length_map] at h5
    refine Nat.le_of_not_lt fun q => ?_
    have q' : (n : Int) < ((ns.length : Nat) : Int) := by omega
    first
      | (rw [decide_eq_true q'] at h5; exact absurd h5 (by decide))
      | (simp at h5; omega)
  cases hwl with
  | cons w1 w2 =>
    cases w2
    cases w1 with
    | list ho hall => exact ⟨_, _, ns, rfl, rfl, ho, ze2 ns _ hall, hlen⟩
theorem zmh (l : OpenLaw) (args : List WData) : l.row.toRowW.claim.post args (.bool true) args = true :=
  postW_of (r := l.row.toRowW) (X := (true == true))
    (show WShape.has [] (.bool true) .bool = true by first | rfl | decide | simp [WShape.has, WShape.arms, WShape.armsAll])
    (show (WTm.eq .res (.lit (.bool true))).value [] { args := args, res := some (.bool true), after := args } = some (.bool (true == true)) from w_eq_bool (w_res rfl) w_lit) rfl
theorem attach_call {l : OpenLaw} {n : Nat} {q : Program} {loose : List Str} {XP : (Str → Option Value) → Heap → Prop} {YP : World → Heap → Prop} {d : DefRec}
    (hn : l.most = some n) (hdf : d.params.defaults = [])
    (call : ∀ (w : World) (s₀ s₁ : Shared) (mg mb : Str → Option Value) (fa : Addr) (o : Obj) (pm cd doc : Value) (a : Addr) (vs : List Value) (ns : List Int),
      Ground q loose [] XP w s₀ mg mb s₁.heap → YP w s₁.heap →
      s₁.heap.get? fa = some o → o.data = .func (docDef d.name d.params d.body d.scope pm cd doc) → s₁.heap.CodeRec cd d.name → mg d.name = some (.ref fa) →
      s₁.heap.get? a = some { cls := .type "list", data := .seq vs.toArray } → IntsAre vs ns → ns.length ≤ n → s₁.gens = #[] →
      codeAny (model l.prog w) callerA (.call (.ref fa) ⟨[.ref a], []⟩) (fun r s' => r = .ok (.ret (.bool true)) ∧ OldK s₁.heap s'.heap ∧ s'.os = s₁.os ∧ AllBare s'.gens) s₁) :
    WalkO q loose XP YP l.row.toRowW d [] (fun f vs => PySem.call f vs) := by
  intro w s₀ s₁ mg mb G Y fa o pm cd doc dV kV ho hd hcd hD hmg hg args vals as hpre hlay hrd hwl hlo
  obtain rfl : dV = .none := Dflts.none hD hdf
  obtain rfl : kV = .none := Dflts.noKw hD
  obtain ⟨a, vs, ns, rfl, rfl, hobj, hints, hlen⟩ := zmg hn hpre hwl
  refine enter_call (codeAny_mono (call w s₀ s₁ mg mb fa o pm cd doc a vs ns G Y ho (fd_plain hd) hcd hmg hobj hints hlen hg) fun r s' hq => ?_)
  obtain ⟨rfl, h2, h3, h4⟩ := hq
  exact ⟨.inl ⟨.bool true, .bool true, [], rfl, fun _ => rfl, .bool true, zmh l _, fun _ => ⟨List.Pairwise.nil, fun _ hm => (nomatch hm)⟩⟩, h2, h3, h4⟩
section
variable {prog : Program} {w : World} {A : Around} {E : Value → Shared → Prop} {s : Shared} {K : Frag}
noncomputable def zxg (h : Heap) (L d : Addr) : List (Addr × Obj) := (List.range h.objs.size).filterMap fun a => if a = L ∨ a = d then none else (h.get? a).map fun o => (a, o)
end
end Att
namespace L2
open PySem PySem.Spec PyProof.Rows
theorem ze3 : ∀ {vs : List Value} {ns : List Int}, IntsAre vs ns → Vals (ns.map V.int) vs
  | _, _, .nil => .nil
  | _, _, .cons n t h => .cons ⟨t, rfl⟩ (ze3 h)
noncomputable def Only (H : Hp) : Prop := ∀ b, H b = none ∨ ∃ o xs, H b = some (.frz o (.lst xs))
theorem zoa {P : Program} {w : World} {K : PySem.W.Frag} {mg mb : Str → Option Value} {CX : CXT} {k : Nat} {fa a : Addr} {fd : FuncData} {x : Str} {sp : Sp} {s₁ : Shared} {vs : List Value} {ns : List Int}
    (KX : K.In s₁.heap) (hns : s₁.heap.Ns mainGlobals mg) (hb : s₁.heap.Ns builtinsNs mb) (hbb : ∀ x : Str, x ≠ "__name__" → mb x = bootBuiltins x) (hlim : s₁.heap.NoLimit) (hg : s₁.gens = #[])
    (ha : s₁.heap.get? a = some { cls := .type "list", data := .seq vs.toArray }) (hi : IntsAre vs ns) (hl : ns.length ≤ sizeLine) (hr : Room k callerA)
    (F : ∀ base : Heap, K.In base → base.Ns mainGlobals mg → FnOk P w K mg base CX k fa fd [x] sp) (hbind : ∀ (s : Shared) (u : Value), BindsTo s fd ⟨[u], []⟩ [(x, u)])
    (hsp : ∀ H : Hp, Only H → SqL K H a (ns.map V.int) → sp [.ref a] H (fun v _ => v = .bl true) fun _ _ _ => False)
    (hCX : ∀ H e s', CX [] H s₁ (fun _ _ _ => False) e s' → False) :
    codeAny (model P w) callerA (.call (.ref fa) ⟨[.ref a], []⟩) (fun r s' => r = .ok (.ret (.bool true)) ∧ OldK s₁.heap s'.heap ∧ s'.os = s₁.os ∧ AllBare s'.gens) s₁ := by
  have rv := ze3 hi
  have lenV := hi.length
  have core : ∀ H : Hp, Only H → SqL K H a (ns.map V.int) → HOk P w H s₁.heap → (∀ b, H b ≠ none → b = a) → (H a ≠ none → K.lookup a = none) →
      codeAny (model P w) callerA (.call (.ref fa) ⟨[.ref a], []⟩) (fun r s' => r = .ok (.ret (.bool true)) ∧ OldK s₁.heap s'.heap ∧ s'.os = s₁.os ∧ AllBare s'.gens) s₁ := by
    intro H hO hS hok hA hK
    have base_of : ∀ {b : Addr} {o : Obj}, s₁.heap.get? b = some o → H b = none → (hidT s₁.heap H).get? b = some o := fun e n => znV e n
    have noA : ∀ {b : Addr} {o : Obj} {es : Array DictEntry} {ep : Nat}, s₁.heap.get? b = some o → o.data = .dict es ep → H b = none := fun {b o es ep} e d => by
      cases q : H b with
      | none => rfl
      | some u =>
        have e' : b = a := hA b (by rw [q]; simp)
        subst e'
        rw [ha] at e; cases e
        have d' : Data.seq vs.toArray _ = Data.dict es ep := d
        cases d'
    have nsK : ∀ {b : Addr} {m : Str → Option Value}, s₁.heap.Ns b m → (hidT s₁.heap H).Ns b m := fun {b m} ⟨o, es, ep, e, d, r⟩ => ⟨o, es, ep, base_of e (noA e d), d, r⟩
    have hKb : K.In (hidT s₁.heap H) := fun b o e => base_of (KX b o e) (by
      cases q : H b with
      | none => rfl
      | some u =>
        have e' : b = a := hA b (by rw [q]; simp)
        subst e'
        rw [hK (by rw [q]; simp)] at e; cases e)
    have hM : Mod K mg (hidT s₁.heap H) := ⟨hKb, nsK hns, ⟨mb, nsK hb, hbb⟩, let ⟨mc, h1, h2⟩ := hlim; ⟨mc, nsK h1, h2⟩⟩
    have e0 : Env0 P w K mg (hidT s₁.heap H) callerA [] s₁ H := ⟨rfl, hM, fun b o e => zp0 e, Nat.le_of_eq (zlT _ _), trivial, fun b hb => absurd (show b ∈ ([] : List Addr) from hb) (by simp), hok, .of_eq hg⟩
    refine codeAny_mono ((F _ hKb (nsK hns)).run callerA [] s₁ H ⟨[.ref a], []⟩ [.ref a] [.ref a] _ _ hr e0 (hbind s₁ (.ref a)) (.cons rfl .nil) (hsp H hO hS)) fun r s' h => ?_
    cases r with
    | error e => exact (hCX H e s' h).elim
    | ok fl =>
      cases fl with
      | next => exact False.elim h
      | brk => exact False.elim h
      | cont => exact False.elim h
      | ret u =>
        obtain ⟨v, H', os, bare, un, hok', r', q⟩ := h
        have q' : v = .bl true := q
        subst q'
        obtain rfl : u = Value.bool true := r'
        refine ⟨rfl, OldK.of_keep fun b o e => ?_, os, bare⟩
        cases q : H b with
        | none => exact un.keep b o e q (by intro z; exact absurd (show b ∈ ([] : List Addr) from z) (by simp)) (by simp)
        | some u =>
          rcases hO b with z | ⟨ob, xs, z⟩
          · rw [q] at z; cases z
          · have z2 := un.frzs b ob _ z
            obtain ⟨e1, _⟩ := hok b _ z
            obtain ⟨e2, _⟩ := hok' b _ z2
            rw [e] at e1; cases e1
            exact e2
  cases hk : K.lookup a with
  | some o =>
    have e := KX a o hk
    rw [ha] at e
    cases e
    refine core (fun _ => none) (fun _ => .inl rfl) (.inr ⟨_, vs.toArray, _, hk, rfl, rfl, rfl, by rw [List.size_toArray, lenV]; exact hl, by simpa using rv⟩) (fun b u z => by have z' : (none : Option HO) = some u := z; cases z') (fun b z => absurd rfl z) fun z => absurd rfl z
  | none =>
    refine core (fun b => if b = a then some (.frz { cls := .type "list", data := .seq vs.toArray } (.lst (ns.map V.int))) else none) (fun b => ?_) (.inl (.inr ⟨{ cls := .type "list", data := .seq vs.toArray }, if_pos rfl⟩)) (fun b u z => ?_) (fun b z => ?_) fun _ => hk
    · by_cases hb : b = a
      · exact .inr ⟨_, _, if_pos hb⟩
      · exact .inl (if_neg hb)
    · by_cases hb : b = a
      · have z' := (if_pos hb).symm.trans z
        cases z'
        subst hb
        exact ⟨ha, by rw [List.length_map]; exact hl, vs, _, rv, ha⟩
      · have z' := (if_neg hb).symm.trans z
        cases z'
    · by_cases hb : b = a
      · exact hb
      · exact absurd (if_neg hb) z
end L2
namespace L2
open PySem PySem.Spec PyProof.Rows
noncomputable abbrev KOf {K : PySem.W.Frag} {h : Heap} (_ : K.In h) : PySem.W.Frag := K
theorem zql {l : PySem.W.OpenLaw} {n k : Nat} {q : Program} {loose : List Str} {XP : (Str → Option Value) → Heap → Prop} {YP : World → Heap → Prop} {d : DefRec} {K : Params → PySem.W.Frag} {CX : World → CXT} {sp : World → Sp} {x : Str}
    (hn : l.most = some n) (hn2 : n ≤ sizeLine) (hdf : d.params.defaults = []) (hr : Room k callerA)
    (hY : ∀ (w : World) (h : Heap), YP w h → (K w.params).In h)
    (F : ∀ (w : World) (mg : Str → Option Value) (fa : Addr) (h : Heap), (K w.params).In h → h.Ns mainGlobals mg → mg d.name = some (.ref fa) →
      ∃ fd : FuncData, (∀ (s : Shared) (u : Value), BindsTo s fd ⟨[u], []⟩ [(x, u)]) ∧
        ∀ base : Heap, (K w.params).In base → base.Ns mainGlobals mg → FnOk l.prog w (K w.params) mg base (CX w) k fa fd [x] (sp w))
    (hsp : ∀ (w : World) (H : Hp) (a : Addr) (ns : List Int), ns.length ≤ n → Only H → SqL (K w.params) H a (ns.map V.int) → sp w [.ref a] H (fun v _ => v = .bl true) fun _ _ _ => False)
    (hCX : ∀ (w : World) (H : Hp) (s : Shared) (e : Value) (s' : Shared), CX w [] H s (fun _ _ _ => False) e s' → False) :
    PySem.W.WalkO q loose XP YP l.row.toRowW d [] (fun f vs => PySem.call f vs) := by
  refine Att.attach_call hn hdf fun w s₀ s₁ mg mb fa o pm cd doc a vs ns G Y ho hd hcd hmg hobj hints hlen hg => ?_
  have KX := hY w _ Y
  obtain ⟨fd, hb, hF⟩ := F w mg fa _ KX G.T.g hmg
  exact zoa KX G.T.g G.T.b G.T.builtins G.T.nolimit hg hobj hints (Nat.le_trans hlen hn2) hr hF hb (fun H hO hS => hsp w H a ns hlen hO hS) fun H e s' => hCX w H s₁ e s'
theorem zob {l : PySem.W.OpenLaw} {n k : Nat} {q : Program} {loose : List Str} {XP : (Str → Option Value) → Heap → Prop} {YP : World → Heap → Prop} {d : DefRec} {K : Params → PySem.W.Frag} {CX : CXT} {sp : PySem.W.Frag → Sp} {x : Str}
    (hn : l.most = some n) (hn2 : n ≤ sizeLine) (hdf : d.params.defaults = []) (hr : Room k callerA)
    (hY : ∀ (w : World) (h : Heap), YP w h → (K w.params).In h)
    (F : ∀ (w : World) (mg : Str → Option Value) (fa : Addr) (h : Heap), (K w.params).In h → h.Ns mainGlobals mg → mg d.name = some (.ref fa) →
      ∃ fd : FuncData, (∀ (s : Shared) (u : Value), BindsTo s fd ⟨[u], []⟩ [(x, u)]) ∧
        ∀ base : Heap, (K w.params).In base → base.Ns mainGlobals mg → FnOk l.prog w (K w.params) mg base CX k fa fd [x] (sp (K w.params)))
    (hsp : ∀ (K : PySem.W.Frag) (H : Hp) (a : Addr) (ns : List Int), ns.length ≤ n → Only H → SqL K H a (ns.map V.int) → sp K [.ref a] H (fun v _ => v = .bl true) fun _ _ _ => False)
    (hCX : ∀ (H : Hp) (s : Shared) (e : Value) (s' : Shared), CX [] H s (fun _ _ _ => False) e s' → False) :
    PySem.W.WalkO q loose XP YP l.row.toRowW d [] (fun f vs => PySem.call f vs) :=
  zql (K := K) (CX := fun _ => CX) (sp := fun w => sp (K w.params)) hn hn2 hdf hr hY F (fun w H a ns h1 h2 h3 => hsp (K w.params) H a ns h1 h2 h3) fun _ H s e s' => hCX H s e s'
end L2
namespace L2
open PySem PySem.Spec PyProof.Rows
noncomputable def zan (s : Stmt) : Arguments := match s with
  | .FunctionDef _ a _ _ _ _ _ _ _ _ => a
  | _ => { posonlyargs := [], args := [], vararg := none, kwonlyargs := [], kw_defaults := [], kwarg := none, defaults := [] }
noncomputable def zag (s : Stmt) : List Stmt := match s with
  | .FunctionDef _ _ b _ _ _ _ _ _ _ => b
  | _ => []
noncomputable def zaa (s : Stmt) : Scope := match s with
  | .FunctionDef _ _ _ _ _ _ sc _ _ _ => sc
  | _ => { kind := .function, names := [], isGenerator := false, isCoroutine := false }
noncomputable abbrev CX0 : CXT := fun _ _ _ _ _ _ => False
noncomputable abbrev E0 : XK := fun _ _ _ => False
theorem zsk {X : Cx} : zl5 CX0 X E0 := fun _ _ _ _ _ _ _ h => h.elim
structure Fun (K : PySem.W.Frag) (x qual : Str) (st : Stmt) (f : Addr) (fd : FuncData) : Prop where
  ex : ∃ (oc : Value) (od : Option Addr) (kV doc pm : Value) (an : Option Addr) (cdv ct : Value) (osl : Array (Option Value)),
    fd = PySem.W.fnOf x qual (zan st) (zag st) (zaa st) .none kV doc pm an cdv ct ∧ K.lookup f = some ⟨oc, od, .func fd, osl⟩ ∧ PySem.W.codeIn K cdv qual = true
  kp : PySem.W.keepIn K (.ref f) = true
section
variable {P : Program} {w : World} {K : PySem.W.Frag} {mg : Str → Option Value} {base : Heap}
theorem Fun.ok {x qual : Str} {st : Stmt} {f : Addr} {fd : FuncData} {N ps : List Str} {k : Nat} {sp : Sp} (F : Fun K x qual st f fd) (S : FnScope N ps (zaa st)) (len : ∀ vs H Q E, sp vs H Q E → vs.length = ps.length)
    (hbody : ∀ (cdv : Value) (A : Around) (outer : List Env) (s : Shared) (H : Hp) (vs : List V) (Q : VK) (E : XK), Room k (A.deeper (envOfC qual (zaa st) s.heap.objs.size f cdv)) → sp vs H Q E →
      ∃ t, PSs (cxOf CX0 P w K mg base N qual (zaa st) f cdv A outer s H E).nox (zag st) t ∧ t { nx := fun _ H' => Q .non H', rt := Q } (zdw N vs) H) : FnOk P w K mg base CX0 (k + 1) f fd ps sp := by
  obtain ⟨oc, od, kV, doc, pm, an, cdv, ct, osl, rfl, lk, hcd⟩ := F.ex
  refine zvY lk hcd S len fun A outer s H vs Q E hr hsp => ?_
  obtain ⟨t, h, q⟩ := hbody cdv A outer s H vs Q E hr hsp
  exact ⟨t, h.nox, q⟩
theorem Fun.binds {x qual : Str} {st : Stmt} {f : Addr} {fd : FuncData} {ps : List Str} (F : Fun K x qual st f fd)
    (h : ∀ (kV doc pm : Value) (an : Option Addr) (cdv ct : Value) (us : List Value), us.length = ps.length → bindArgs (PySem.W.fnOf x qual (zan st) (zag st) (zaa st) .none kV doc pm an cdv ct) ⟨us, []⟩ = pure (ps.zip us)) : Binds K fd ps [] := by
  obtain ⟨oc, od, kV, doc, pm, an, cdv, ct, osl, rfl, lk, hcd⟩ := F.ex
  exact .all (h kV doc pm an cdv ct)
theorem zaw {x qual : Str} {st : Stmt} {f : Addr} {oc : Value} {od an : Option Addr} {osl : Array (Option Value)} {kV doc pm cdv ct : Value} (l : K.lookup f = some ⟨oc, od, .func (PySem.W.fnOf x qual (zan st) (zag st) (zaa st) .none kV doc pm an cdv ct), osl⟩)
    (c : PySem.W.codeIn K cdv qual = true) (k : PySem.W.keepIn K (.ref f) = true) : Fun K x qual st f (PySem.W.fnOf x qual (zan st) (zag st) (zaa st) .none kV doc pm an cdv ct) := ⟨⟨oc, od, kV, doc, pm, an, cdv, ct, osl, rfl, l, c⟩, k⟩
end
theorem zcC {n : Nat} (h : n ≤ 1000) : n < sizeLine := Nat.lt_of_le_of_lt h (by decide)
theorem iteF {A B : Prop} (h : B) : if false = true then A else B := by
  rw [if_neg Bool.false_ne_true]
  exact h
theorem iteT {A B : Prop} (h : A) : if true = true then A else B := by
  rw [if_pos rfl]
  exact h
noncomputable def Same (H H' : Hp) : Prop := ∀ b o, H b = some o → H' b = some o
theorem Same.refl (H : Hp) : Same H H := fun _ _ h => h
theorem Same.trans {H H1 H2 : Hp} (a : Same H H1) (b : Same H1 H2) : Same H H2 := fun c o h => b c o (a c o h)
theorem Same.free {H H' : Hp} (e : Same H H') {l : Addr} (h : H' l = Option.none) : H l = Option.none := by
  cases q : H l with
  | none => rfl
  | some o =>
    rw [e l o q] at h
    cases h
theorem Same.seq {K : PySem.W.Frag} {H H' : Hp} {a : Addr} {xs : List V} (e : Same H H') (h : SqL K H a xs) : SqL K H' a xs := by
  rcases h with (h | ⟨o, h⟩) | h
  · exact .inl (.inl (e _ _ h))
  · exact .inl (.inr ⟨o, e _ _ h⟩)
  · exact .inr h
end L2
set_option linter.all false
namespace L2.LW
open PySem
set_option genSizeOf false
inductive D where
  | int (i : Int) | bl (b : Bool) | non | str (x : Str) | tup (l : List D) | lst (l : List D)
  | dct (t : Bool) (ks vs : List D)
mutual
noncomputable def eqD : D → D → Bool
  | .int a, .int b => a == b
  | .bl a, .bl b => a == b
  | .int a, .bl b => a == (if b then 1 else 0)
  | .bl a, .int b => (if a then 1 else 0) == b
  | .non, .non => true
  | .str a, .str b => a == b
  | .tup xs, .tup ys => eqDs xs ys
  | .lst xs, .lst ys => eqDs xs ys
  | _, _ => false
noncomputable def eqDs : List D → List D → Bool
  | [], [] => true
  | x :: xs, y :: ys => eqD x y && eqDs xs ys
  | _, _ => false
end
mutual
noncomputable def plain : D → Bool
  | .lst _ => false
  | .dct _ _ _ => false
  | .tup l => zbq l
  | _ => true
noncomputable def zbq : List D → Bool
  | [] => true
  | x :: xs => plain x && zbq xs
end
inductive SV where
  | val (d : D) | obj (o : Bool) (d : D) | io (d : D)
noncomputable abbrev SV.lis (o : Bool) (ds : List D) : SV := .obj o (.lst ds)
noncomputable def toD : SV → Option D
  | .val d => some d
  | .obj true d => some d
  | _ => none
noncomputable def seeD : SV → D
  | .val d => d
  | .obj _ d => d
  | .io d => d
noncomputable def SV.lent : SV → Bool
  | .val _ => false
  | .obj true _ => false
  | _ => true
noncomputable def zbO : D → Bool
  | .lst ds => zbq ds
  | .dct _ _ vs => zbq vs
  | d => plain d
noncomputable def SV.plain : SV → Bool
  | .val d => LW.plain d
  | .obj _ d => zbO d
  | .io _ => false
noncomputable abbrev Env := List (Option SV)
inductive Ty where
  | bool | int | str | list | tuple
  deriving DecidableEq
inductive Prim where
  | add | sub | mul | fdiv | mod | neg | eq | ne | lt | le | gt | ge | isN | notN | inn | nin | idx | len | abs | min2 | max2 | sorted | skeys | cutT | cutF | addT | mulT | addS | join0 | splitN | eqS | neS | toList | toTup | all | inst (t : Ty) | cutTo | maxL | minL | sumL | intOf
set_option genInjectivity false
mutual
inductive E where
  | int (i : Int) | bl (b : Bool) | non | str (x : Str)
  | var (i : Nat)
  | prim (p : Prim) (es : Es)
  | tup (es : Es) | lst (es : Es)
  | and (a b : E) | or (a b : E) | not (a : E)
  | chain (p q : Prim) (a b c : E)
  | ite (c a b : E)
  | call (f : Nat) (es : Es)
  | comp (rng : Bool) (src : Es) (cond elt : E)
  | dnew (t : Bool) | done (t : Bool) (k v : E)
inductive Es where
  | nil | cons (e : E) (es : Es)
end
set_option genInjectivity true
noncomputable def ze4 : Ty → D → Bool
  | .bool, .bl _ => true
  | .int, .int _ => true
  | .int, .bl _ => true
  | .str, .str _ => true
  | .list, .lst _ => true
  | .tuple, .tup _ => true
  | _, _ => false
noncomputable def ints? : List D → Option (List Int)
  | [] => some []
  | .int i :: r => (ints? r).map (i :: ·)
  | _ => none
noncomputable def lexLt : List Int → List Int → Bool
  | _, [] => false
  | [], _ :: _ => true
  | x :: xs, y :: ys => if x = y then lexLt xs ys else decide (x < y)
noncomputable def ixN (n : Nat) (i : Int) : Option Nat := if 0 ≤ i then (if i < n then some i.toNat else none) else if -(n : Int) ≤ i then some (i + n).toNat else none
noncomputable def atI {α : Type} (xs : List α) (i : Int) : Option α := (ixN xs.length i).bind fun j => xs[j]?
noncomputable def bools? : List D → Option (List Bool)
  | [] => some []
  | .bl i :: r => (bools? r).map (i :: ·)
  | _ => none
noncomputable def line : Nat := 16777216
noncomputable def ze5 : D → Option (List D)
  | .tup l => some l
  | .lst l => some l
  | _ => none
noncomputable def tups? : List D → Option (List (List Int))
  | [] => some []
  | .tup l :: r => (ints? l).bind fun x => (tups? r).map (x :: ·)
  | _ => none
noncomputable def insT (x : List Int) : List (List Int) → List (List Int)
  | [] => [x]
  | y :: r => if lexLt x y then x :: y :: r else y :: insT x r
noncomputable def zf6 : List (List Int) → List (List Int)
  | [] => []
  | x :: r => insT x (zf6 r)
noncomputable def zlj (l : List Int) : List Int := l.mergeSort (fun a b => decide (a ≤ b))
noncomputable def shal : Nat → D → Bool
  | _, .int _ => true
  | _, .bl _ => true
  | _, .non => true
  | _, .str _ => false
  | 0, _ => false
  | n + 1, .tup l => l.all (shal n)
  | n + 1, .lst l => l.all (shal n)
  | _ + 1, .dct _ _ _ => false
noncomputable def zbH : Bool → D → Bool
  | false, .int _ => true
  | true, .tup l => (ints? l).isSome
  | _, _ => false
noncomputable def kix (ks : List D) (k : D) : Option Nat := ks.findIdx? fun x => eqD x k
noncomputable def dget (ks vs : List D) (k : D) : Option D := (kix ks k).bind fun i => vs[i]?
noncomputable def dput (t : Bool) (ks vs : List D) (k v : D) : D := if (kix ks k).isSome then .dct t ks (List.zipWith (fun k' v' => if eqD k' k then v else v') ks vs) else .dct t (ks ++ [k]) (vs ++ [v])
noncomputable def zbV (r : Int) : Option SV := some (.val (.int r))
noncomputable def okBl (r : Bool) : Option SV := some (.val (.bl r))
noncomputable def pAdd : List D → Option SV
  | [.int a, .int b] => zbV (a + b)
  | [.lst a, .lst b] => if a.length + b.length ≤ line then some (SV.obj true (.lst (a ++ b))) else none
  | _ => none
noncomputable def pSub : List D → Option SV
  | [.int a, .int b] => zbV (a - b)
  | _ => none
noncomputable def pMul : List D → Option SV
  | [.int a, .int b] => if (-(2 ^ 64) < a ∧ a < 2 ^ 64) ∨ (-(2 ^ 64) < b ∧ b < 2 ^ 64) then zbV (a * b) else none
  | _ => none
noncomputable def zoc : List D → Option SV
  | [.int a, .int b] => if 0 < b ∧ b < 1073741824 then zbV (a / b) else none
  | _ => none
noncomputable def pMod : List D → Option SV
  | [.int a, .int b] => if 0 < b then zbV (a % b) else none
  | _ => none
noncomputable def pNeg : List D → Option SV
  | [.int a] => zbV (-a)
  | _ => none
noncomputable def pEq : List D → Option SV
  | [a, b] => if shal 8 a && shal 8 b then okBl (eqD a b) else none
  | _ => none
noncomputable def pNe : List D → Option SV
  | [a, b] => if shal 8 a && shal 8 b then okBl (!eqD a b) else none
  | _ => none
noncomputable def pLt : List D → Option SV
  | [.int a, .int b] => okBl (decide (a < b))
  | [.tup a, .tup b] => (ints? a).bind fun x => (ints? b).bind fun y => okBl (lexLt x y)
  | _ => none
noncomputable def pLe : List D → Option SV
  | [.int a, .int b] => okBl (decide (a ≤ b))
  | _ => none
noncomputable def pGt : List D → Option SV
  | [.int a, .int b] => okBl (decide (b < a))
  | _ => none
noncomputable def pGe : List D → Option SV
  | [.int a, .int b] => okBl (decide (b ≤ a))
  | _ => none
noncomputable def ze6 : D → Bool
  | .non => true
  | _ => false
noncomputable def pIsN : List D → Option SV
  | [d] => okBl (ze6 d)
  | _ => none
noncomputable def zsl : List D → Option SV
  | [d] => okBl (!ze6 d)
  | _ => none
noncomputable def pIn : List D → Option SV
  | [x, .dct t ks _] => if zbH t x then okBl (kix ks x).isSome else none
  | [x, .tup l] => if shal 8 x && l.all (shal 8) then okBl (l.any fun y => eqD y x) else none
  | [x, .lst l] => if shal 8 x && l.all (shal 8) then okBl (l.any fun y => eqD y x) else none
  | _ => none
noncomputable def pNin : List D → Option SV
  | [x, .dct t ks _] => if zbH t x then okBl (!(kix ks x).isSome) else none
  | [x, .tup l] => if shal 8 x && l.all (shal 8) then okBl (!l.any fun y => eqD y x) else none
  | [x, .lst l] => if shal 8 x && l.all (shal 8) then okBl (!l.any fun y => eqD y x) else none
  | _ => none
noncomputable def pIdx : List D → Option SV
  | [.dct t ks vs, k] => if zbH t k then (dget ks vs k).map .val else none
  | [.tup l, .int i] => (atI l i).map .val
  | [.lst l, .int i] => (atI l i).map .val
  | _ => none
noncomputable def pLen : List D → Option SV
  | [.tup l] => zbV l.length
  | [.lst l] => zbV l.length
  | _ => none
noncomputable def pAbs : List D → Option SV
  | [.int i] => zbV (if i < 0 then -i else i)
  | _ => none
noncomputable def zqm : List D → Option SV
  | [.int i, .int j] => zbV (if j < i then j else i)
  | _ => none
noncomputable def zqn : List D → Option SV
  | [.int i, .int j] => zbV (if j > i then j else i)
  | _ => none
noncomputable def ze7 (l : List D) : Option SV := match ints? l with
  | some ns => if ns.length < 64 then some (.obj true (.lst ((zlj ns).map .int))) else none
  | none => (tups? l).bind fun ks => if ks.length < 64 ∧ ks.Nodup ∧ ks.all (fun k => !k.isEmpty) = true then some (.obj true (.lst ((zf6 ks).map fun k => .tup (k.map .int)))) else none
noncomputable def zjq : List D → Option SV
  | [.lst l] => ze7 l
  | _ => none
noncomputable def ze8 (l : List D) : Option SV := (tups? l).bind fun ks => if ks.length < 64 ∧ ks.Nodup ∧ ks.all (fun k => !k.isEmpty) = true then some (.obj true (.lst ((zf6 ks).map fun k => .tup (k.map .int)))) else none
noncomputable def zh9 : List D → Option SV
  | [.dct true ks _] => ze8 ks
  | _ => none
noncomputable def zv3 : List D → Option SV
  | [.tup l, .int k] => if 0 ≤ k ∧ k < l.length then some (.val (.tup (l.take k.toNat))) else none
  | _ => none
noncomputable def zv4 : List D → Option SV
  | [.tup l, .int k] => if 0 < k ∧ 0 < l.length then some (.val (.tup (l.drop k.toNat))) else none
  | _ => none
noncomputable def zv5 : List D → Option SV
  | [.tup a, .tup b] => if a.length + b.length ≤ 10000000 then some (.val (.tup (a ++ b))) else none
  | _ => none
noncomputable def zv6 : List D → Option SV
  | [.tup l, .int k] => if k = 2 ∧ l.length ≤ 1000 ∧ l ≠ [] then some (.val (.tup (l ++ l))) else none
  | _ => none
noncomputable def zv7 : List D → Option SV
  | [.str a, .str b] => if a.length + b.length ≤ 10000000 then some (.val (.str (a ++ b))) else none
  | _ => none
noncomputable def strs? : List D → Option (List Str)
  | [] => some []
  | .str x :: r => (strs? r).map (x :: ·)
  | _ => none
noncomputable def zv8 (ys : List Str) : Str := ⟨(ys.flatMap fun y => y.cps.toList).toArray⟩
noncomputable def zsm : List D → Option SV
  | [.lst l] => (strs? l).bind fun ys => if (ys.map (·.length)).sum ≤ 10000000 then some (.val (.str (zv8 ys))) else none
  | _ => none
noncomputable def cutC (c : Nat) : List Nat → List (List Nat)
  | [] => [[]]
  | a :: r => if a = c then [] :: cutC c r else match cutC c r with
    | p :: ps => (a :: p) :: ps
    | [] => [[a]]
noncomputable def zsn (x : Str) : List Str := (cutC 10 x.cps.toList).map fun l => ⟨l.toArray⟩
noncomputable def zqo : List D → Option SV
  | [.str x] => if x.length ≤ 10000000 then some (.obj true (.lst ((zsn x).map D.str))) else none
  | _ => none
noncomputable def zso (x : Str) : List D := x.cps.toList.map fun c => D.str ⟨#[c]⟩
noncomputable def pEqS : List D → Option SV
  | [.str a, .str b] => some (.val (.bl (decide (a = b))))
  | _ => none
noncomputable def pNeS : List D → Option SV
  | [.str a, .str b] => some (.val (.bl (!decide (a = b))))
  | _ => none
noncomputable def zqp : List D → Option SV
  | [.tup l] => some (SV.obj true (.lst l))
  | [.lst l] => some (SV.obj true (.lst l))
  | _ => none
noncomputable def zmi : List D → Option SV
  | [.tup l] => some (.val (.tup l))
  | [.lst l] => some (.val (.tup l))
  | _ => none
noncomputable def pAll : List D → Option SV
  | [.lst l] => (bools? l).bind fun bs => okBl (bs.all id)
  | _ => none
noncomputable def zsp (t : Ty) : List D → Option SV
  | [d] => okBl (ze4 t d)
  | _ => none
noncomputable def zkl : List D → Option SV
  | [.lst l, .int k] => if 0 ≤ k then some (SV.obj true (.lst (l.take k.toNat))) else none
  | _ => none
noncomputable def zod : List D → Option SV
  | [.lst l] => (ints? l).bind fun ns => match ns with
    | [] => none
    | n :: r => zbV (r.foldl max n)
  | _ => none
noncomputable def zoe : List D → Option SV
  | [.lst l] => (ints? l).bind fun ns => match ns with
    | [] => none
    | n :: r => zbV (r.foldl min n)
  | _ => none
noncomputable def zv9 : List D → Option SV
  | [.lst l] => (ints? l).bind fun ns => zbV ns.sum
  | [.tup l] => (ints? l).bind fun ns => zbV ns.sum
  | _ => none
noncomputable def zsq : List D → Option SV
  | [.int i] => zbV i
  | [.bl b] => zbV (if b then 1 else 0)
  | _ => none
noncomputable def zaj : Prim → List D → Option SV
  | .add => pAdd | .sub => pSub | .mul => pMul | .fdiv => zoc | .mod => pMod | .neg => pNeg | .eq => pEq | .ne => pNe | .lt => pLt | .le => pLe | .gt => pGt | .ge => pGe
  | .isN => pIsN | .notN => zsl | .inn => pIn | .nin => pNin | .idx => pIdx | .len => pLen | .abs => pAbs | .min2 => zqm | .max2 => zqn
  | .sorted => zjq | .skeys => zh9 | .cutT => zv3 | .cutF => zv4 | .addT => zv5 | .mulT => zv6 | .addS => zv7 | .join0 => zsm | .splitN => zqo | .eqS => pEqS | .neS => pNeS | .toList => zqp | .toTup => zmi | .all => pAll | .inst t => zsp t | .cutTo => zkl | .maxL => zod | .minL => zoe | .sumL => zv9 | .intOf => zsq
noncomputable def zbI : SV → Option Bool
  | .val (.bl b) => some b
  | .val (.int i) => some (i != 0)
  | .val .non => some false
  | .val (.tup l) => some (!l.isEmpty)
  | .val (.lst l) => some (!l.isEmpty)
  | .obj _ (.lst l) => some (!l.isEmpty)
  | _ => none
noncomputable def look (ρ : Env) (i : Nat) : Option SV := match ρ[i]? with
  | some (some (.val d)) => some (.val d)
  | some (some (.obj _ d)) => some (.obj false d)
  | some (some (.io d)) => some (.obj false d)
  | _ => none
noncomputable def free (ρ : Env) (i : Nat) : Bool := match ρ[i]? with
  | some (some (.io _)) => false
  | _ => true
noncomputable def SV.cell : SV → Option D
  | .obj true d => some d
  | .io d => some d
  | _ => none
noncomputable def SV.put : SV → D → SV
  | .io _, d => .io d
  | _, d => .obj true d
noncomputable def inR (j : Int) : Prop := -(2 ^ 62) ≤ j ∧ j < 2 ^ 62
noncomputable instance (j : Int) : Decidable (inR j) := by unfold inR; exact inferInstance
noncomputable def zaH : Bool → List SV → Option (List D)
  | false, [r] => ze5 (seeD r)
  | true, [.val (.int n)] => if inR n then some ((List.range n.toNat).map fun (k : Nat) => D.int (0 + (k : Int))) else none
  | true, [.val (.int a), .val (.int b)] => if inR a ∧ inR b then some ((List.range (b - a).toNat).map fun (k : Nat) => D.int (a + (k : Int))) else none
  | _, _ => none
noncomputable def zdn (test : D → Option Bool) (elt : D → Option SV) : List D → Option (List D)
  | [] => some []
  | d :: r => (test d).bind fun b => match b with
    | true => (elt d).bind fun x => (toD x).bind fun y => (zdn test elt r).map (y :: ·)
    | false => zdn test elt r
noncomputable def zeb (rs : List SV) (r : Option SV) : Option SV := r.bind fun x => if rs.any SV.lent && !x.plain then none else some x
noncomputable def toDs : List SV → Option (List D)
  | [] => some []
  | r :: rs => (toD r).bind fun d => (toDs rs).map (d :: ·)
mutual
noncomputable def evE (fn : Nat → List D → Option SV) : E → Env → Option SV
  | .int i, _ => some (.val (.int i))
  | .bl b, _ => some (.val (.bl b))
  | .non, _ => some (.val .non)
  | .str x, _ => some (.val (.str x))
  | .var i, ρ => look ρ i
  | .prim p es, ρ => (evEs fn es ρ).bind fun rs => zaj p (rs.map seeD)
  | .tup es, ρ => (evEs fn es ρ).bind fun rs => (toDs rs).map fun ds => .val (.tup ds)
  | .lst es, ρ => (evEs fn es ρ).bind fun rs => (toDs rs).map fun ds => SV.obj true (.lst ds)
  | .and a b, ρ => (evE fn a ρ).bind fun r => match r with
    | .val (.bl true) => evE fn b ρ
    | .val (.bl false) => some (.val (.bl false))
    | _ => none
  | .or a b, ρ => (evE fn a ρ).bind fun r => match r with
    | .val (.bl true) => some (.val (.bl true))
    | .val (.bl false) => evE fn b ρ
    | _ => none
  | .not a, ρ => (evE fn a ρ).bind fun r => match r with
    | .val (.bl b) => some (.val (.bl (!b)))
    | _ => none
  | .chain p q a b c, ρ => (evE fn a ρ).bind fun x => (evE fn b ρ).bind fun y => (zaj p [seeD x, seeD y]).bind fun z => match z with
    | .val (.bl true) => (evE fn c ρ).bind fun w => zaj q [seeD y, seeD w]
    | .val (.bl false) => some (.val (.bl false))
    | _ => none
  | .ite c a b, ρ => (evT fn c ρ).bind fun k => if k then evE fn a ρ else evE fn b ρ
  | .call f es, ρ => (evEs fn es ρ).bind fun rs => zeb rs (fn f (rs.map seeD))
  | .dnew t, _ => some (.obj true (.dct t [] []))
  | .done t k v, ρ => (evE fn k ρ).bind fun x => (evE fn v ρ).bind fun y => (toD x).bind fun a => (toD y).bind fun b => if zbH t a then some (.obj true (.dct t [a] [b])) else none
  | .comp rng src cond elt, ρ => (evEs fn src ρ).bind fun rs => (zaH rng rs).bind fun ds =>
    if ds.length ≤ line then (zdn (fun d => evT fn cond (some (.val d) :: ρ)) (fun d => evE fn elt (some (.val d) :: ρ)) ds).map fun l => SV.obj true (.lst l) else none
noncomputable def evEs (fn : Nat → List D → Option SV) : Es → Env → Option (List SV)
  | .nil, _ => some []
  | .cons e es, ρ => (evE fn e ρ).bind fun r => (evEs fn es ρ).map (r :: ·)
noncomputable def evT (fn : Nat → List D → Option SV) : E → Env → Option Bool
  | .and a b, ρ => (evT fn a ρ).bind fun k => if k then evT fn b ρ else some false
  | .or a b, ρ => (evT fn a ρ).bind fun k => if k then some true else evT fn b ρ
  | .not a, ρ => (evT fn a ρ).map (!·)
  | .int i, _ => some (i != 0)
  | .bl b, _ => some b
  | .non, _ => some false
  | .str _, _ => none
  | .var i, ρ => (look ρ i).bind zbI
  | .prim p es, ρ => (evEs fn es ρ).bind fun rs => (zaj p (rs.map seeD)).bind zbI
  | .tup _, _ => none
  | .lst _, _ => none
  | .chain p q a b c, ρ => (evE fn a ρ).bind fun x => (evE fn b ρ).bind fun y => (zaj p [seeD x, seeD y]).bind fun z => match z with
    | .val (.bl true) => (evE fn c ρ).bind fun w => (zaj q [seeD y, seeD w]).bind zbI
    | .val (.bl false) => some false
    | _ => none
  | .ite _ _ _, _ => none
  | .call f es, ρ => (evEs fn es ρ).bind fun rs => (zeb rs (fn f (rs.map seeD))).bind zbI
  | .comp rng src cond elt, ρ => (evEs fn src ρ).bind fun rs => (zaH rng rs).bind fun ds =>
    if ds.length ≤ line then (zdn (fun d => evT fn cond (some (.val d) :: ρ)) (fun d => evE fn elt (some (.val d) :: ρ)) ds).map fun l => !l.isEmpty else none
  | .dnew _, _ => none
  | .done _ _ _, _ => none
end
inductive Ans where
  | ok (r : SV) (outs : List D)
  | ex (c : Nat)
noncomputable def prj (fa : Nat → List D → Option Ans) (f : Nat) (ds : List D) : Option SV := match fa f ds with
  | some (.ok r []) => some r
  | _ => none
set_option genInjectivity false
inductive MA where
  | nil | e (c : E) (r : MA) | s (i : Nat) (r : MA) | n (t : Bool) (r : MA)
inductive AV where
  | e (d : D) | l (ds : List D) | s (i : Nat) (d : D) | n (t : Bool)
inductive M where
  | call (f : Nat) (ma : MA)
  | op (p : Prim) (a : E) (m : M)
set_option genInjectivity true
noncomputable def zf7 : D → Bool
  | .dct _ _ vs => zbq vs
  | _ => false
noncomputable def SV.fine : SV → Bool
  | .val d => LW.plain d
  | .obj true d => zbO d
  | _ => false
noncomputable def avOf : SV → Option AV
  | .val (.lst ds) => if zbq ds then some (.l ds) else none
  | .val d => if plain d then some (.e d) else none
  | .obj _ (.lst ds) => if zbq ds then some (.l ds) else none
  | _ => none
noncomputable def zcD (ρ : Env) (i : Nat) : Option D := match ρ[i]? with
  | some (some x) => x.cell
  | _ => none
noncomputable def evMA (fn : Nat → List D → Option SV) : MA → Env → Option (List AV)
  | .nil, _ => some []
  | .e c r, ρ => (evE fn c ρ).bind fun x => (avOf x).bind fun a => (evMA fn r ρ).map (a :: ·)
  | .s i r, ρ => (zcD ρ i).bind fun d => if zf7 d then (evMA fn r ρ).map (.s i d :: ·) else none
  | .n t r, ρ => (evMA fn r ρ).map (.n t :: ·)
noncomputable def seeA : AV → D
  | .e d => d
  | .l ds => .lst ds
  | .s _ d => d
  | .n t => .dct t [] []
noncomputable def putS (ρ : Env) (i : Nat) (d : D) : Env := match ρ[i]? with
  | some (some x) => ρ.set i (some (x.put d))
  | _ => ρ
noncomputable def putO (ρ : Env) : List AV → List D → Option Env
  | [], [] => some ρ
  | .s i _ :: r, d :: ds => putO (putS ρ i d) r ds
  | .n _ :: r, _ :: ds => putO ρ r ds
  | .e _ :: r, ds => putO ρ r ds
  | .l _ :: r, ds => putO ρ r ds
  | _, _ => none
noncomputable def evM (fa : Nat → List D → Option Ans) : M → Env → Option (SV × Env)
  | .call f ma, ρ => (evMA (prj fa) ma ρ).bind fun xs => (fa f (xs.map seeA)).bind fun a => match a with
    | .ok r outs => if r.fine && outs.all zbO then (putO ρ xs outs).map fun ρ' => (r, ρ') else none
    | .ex _ => none
  | .op p a m, ρ => (evE (prj fa) a ρ).bind fun x => match x with
    | .val d => if plain d then (evM fa m ρ).bind fun y => (zaj p [d, seeD y.1]).map fun z => (z, y.2) else none
    | _ => none
set_option genInjectivity false
mutual
inductive S where
  | expr (e : E) | asg (i : Nat) (e : E) | mov (i j : Nat) | app (i : Nat) (e : E) | dset (i : Nat) (k v : E) | dupd (i j : Nat) | unp3 (i j k : Nat) (e : E) | exprM (m : M) | asgM (i : Nat) (m : M) | ifO (c : E) (m : M) (a b : Ss) | ret (e : E) | retV (i : Nat) | retN
  | ifs (c : E) (a b : Ss) | for_ (i : Nat) (rng : Bool) (src : Es) (body : Ss) | forV (i j : Nat) (body : Ss) | forU (i j : Nat) (rng : Bool) (src : Es) (body : Ss) | forE (i j : Nat) (src : E) (body : Ss) | while_ (c : E) (body : Ss) | frz (js : List Nat) (s : S) | brk | cnt | pass | stop
inductive Ss where
  | nil | cons (s : S) (ss : Ss)
end
set_option genInjectivity true
inductive Fl where
  | nx | br | ct | rt (r : SV)
noncomputable def forL (i : Nat) (body : Env → Option (Fl × Env)) : List D → Env → Option (Fl × Env)
  | [], ρ => some (.nx, ρ)
  | d :: r, ρ => (body (ρ.set i (some (.val d)))).bind fun x => match x.1 with
    | .nx => forL i body r x.2
    | .ct => forL i body r x.2
    | .br => some (.nx, x.2)
    | .rt v => some (.rt v, x.2)
noncomputable def zia : D → Bool
  | .tup [.int a, .int b] => decide (0 ≤ a ∧ a ≤ 7 ∧ 0 ≤ b ∧ b ≤ 7)
  | _ => false
noncomputable def zcE (ks vs : List D) : List D → List D → List D × List D
  | k :: ks2, v :: vs2 => match dput true ks vs k v with
    | .dct _ a b => zcE a b ks2 vs2
    | _ => (ks, vs)
  | _, _ => (ks, vs)
noncomputable def zof (ρ : Env) (i : Nat) (x : SV) : Option D → Option D → Option (Fl × Env)
  | some (.dct true ks vs), some (.dct true ks2 vs2) => if ks2.all zia && decide (ks.length + ks2.length < line) then some (.nx, ρ.set i (some (x.put (.dct true (zcE ks vs ks2 vs2).1 (zcE ks vs ks2 vs2).2)))) else none
  | _, _ => none
noncomputable def zmj (ρ : Env) (i j : Nat) : Option (Fl × Env) := if i = j then none else match ρ[i]? with
  | some (some x) => zof ρ i x x.cell (zcD ρ j)
  | _ => none
noncomputable def zmk (ρ : Env) (i j k : Nat) : SV → Option (Fl × Env)
  | .obj true (.lst [a, b, c]) => if free ρ i && free ρ j && free ρ k then some (.nx, ((ρ.set i (some (.val a))).set j (some (.val b))).set k (some (.val c))) else none
  | _ => none
noncomputable def zml : Nat → List D → List D
  | _, [] => []
  | k, d :: r => .tup [.int k, d] :: zml (k + 1) r
noncomputable def zwa : SV → Option (List D)
  | .obj true (.lst l) => some (zml 0 l)
  | .val (.str x) => some (zml 0 (zso x))
  | _ => none
noncomputable def zog (i j : Nat) (body : Env → Option (Fl × Env)) : List D → Env → Option (Fl × Env)
  | [], ρ => some (.nx, ρ)
  | .tup [a, b] :: r, ρ => (body ((ρ.set i (some (.val a))).set j (some (.val b)))).bind fun x => match x.1 with
    | .nx => zog i j body r x.2
    | .ct => zog i j body r x.2
    | .br => some (.nx, x.2)
    | .rt v => some (.rt v, x.2)
  | _, _ => none
noncomputable def zcy (test : Env → Option Bool) (body : Env → Option (Fl × Env)) : Nat → Env → Option (Fl × Env)
  | 0, _ => none
  | n + 1, ρ => (test ρ).bind fun b => if b then (body ρ).bind fun x => (match x.1 with
    | .nx => zcy test body n x.2
    | .ct => zcy test body n x.2
    | .br => some (.nx, x.2)
    | .rt v => some (.rt v, x.2)) else some (.nx, ρ)
noncomputable def zgv (ρ : Env) (j : Nat) : Option (List D × Env) := match ρ[j]? with
  | some (some (.val d)) => (ze5 d).map fun l => (l, ρ)
  | some (some (.obj _ (.lst ds))) => some (ds, ρ.set j (some (.val (.lst ds))))
  | _ => none
noncomputable def frz1 (ρ : Env) (j : Nat) : Env := match ρ[j]? with
  | some (some (.obj true d)) => ρ.set j (some (.val d))
  | _ => ρ
mutual
noncomputable def exS (fa : Nat → List D → Option Ans) (fuel : Nat) : S → Env → Option (Fl × Env)
  | .expr e, ρ => (evE (prj fa) e ρ).map fun _ => (.nx, ρ)
  | .asg i e, ρ => (evE (prj fa) e ρ).bind fun r => if r.lent || !free ρ i then none else some (.nx, ρ.set i (some r))
  | .mov i j, ρ => if free ρ i then (match ρ[j]? with
    | some (some (.val d)) => some (.nx, ρ.set i (some (.val d)))
    | some (some (.obj _ d)) => some (.nx, (ρ.set j (some (.val d))).set i (some (.val d)))
    | _ => none) else none
  | .app i e, ρ => match ρ[i]? with
    | some (some x) => (match x.cell with
      | some (.lst ds) => (evE (prj fa) e ρ).bind fun r => (toD r).bind fun d => if ds.length < line then some (.nx, ρ.set i (some (x.put (.lst (ds ++ [d]))))) else none
      | _ => none)
    | _ => none
  | .dupd i j, ρ => zmj ρ i j
  | .unp3 i j k e, ρ => (evE (prj fa) e ρ).bind (zmk ρ i j k)
  | .dset i k v, ρ => match ρ[i]? with
    | some (some x) => (match x.cell with
      | some (.dct t ks vs) => (evE (prj fa) v ρ).bind fun r => (toD r).bind fun d => (evE (prj fa) k ρ).bind fun r => (toD r).bind fun a => if zbH t a && decide (ks.length < line) then some (.nx, ρ.set i (some (x.put (dput t ks vs a d)))) else none
      | _ => none)
    | _ => none
  | .exprM m, ρ => (evM fa m ρ).map fun x => (.nx, x.2)
  | .asgM i m, ρ => (evM fa m ρ).bind fun x => if x.1.lent || !free x.2 i then none else some (.nx, x.2.set i (some (.val (seeD x.1))))
  | .ifO c m a b, ρ => (evT (prj fa) c ρ).bind fun k => if k then exSs fa fuel a ρ else (evM fa m ρ).bind fun x => (zbI x.1).bind fun k => if k then exSs fa fuel a x.2 else exSs fa fuel b x.2
  | .ret e, ρ => (evE (prj fa) e ρ).bind fun r => if r.lent then none else some (.rt r, ρ)
  | .retV i, ρ => match ρ[i]? with
    | some (some (.val d)) => some (.rt (.val d), ρ)
    | some (some (.obj _ d)) => some (.rt (.obj true d), ρ.set i none)
    | _ => none
  | .retN, ρ => some (.rt (.val .non), ρ)
  | .ifs c a b, ρ => (evT (prj fa) c ρ).bind fun k => if k then exSs fa fuel a ρ else exSs fa fuel b ρ
  | .for_ i rng src body, ρ => (evEs (prj fa) src ρ).bind fun rs => if rs.any SV.lent || !free ρ i then none else (zaH rng rs).bind fun ds => forL i (exSs fa fuel body) ds ρ
  | .forV i j body, ρ => if free ρ i then (zgv ρ j).bind fun x => forL i (exSs fa fuel body) x.1 x.2 else none
  | .forU i j rng src body, ρ => (evEs (prj fa) src ρ).bind fun rs => if rs.any SV.lent || !free ρ i || !free ρ j then none else (zaH rng rs).bind fun ds => zog i j (exSs fa fuel body) ds ρ
  | .forE i j src body, ρ => (evE (prj fa) src ρ).bind fun r => if !free ρ i || !free ρ j then none else (zwa r).bind fun ds => zog i j (exSs fa fuel body) ds ρ
  | .while_ c body, ρ => zcy (evT (prj fa) c) (exSs fa fuel body) fuel ρ
  | .frz js s, ρ => exS fa fuel s (js.foldl frz1 ρ)
  | .brk, ρ => some (.br, ρ)
  | .cnt, ρ => some (.ct, ρ)
  | .pass, ρ => some (.nx, ρ)
  | .stop, _ => none
noncomputable def exSs (fa : Nat → List D → Option Ans) (fuel : Nat) : Ss → Env → Option (Fl × Env)
  | .nil, ρ => some (.nx, ρ)
  | .cons s ss, ρ => (exS fa fuel s ρ).bind fun x => match x.1 with
    | .nx => exSs fa fuel ss x.2
    | _ => some x
end
inductive Hd where
  | ret (ks : List Nat) | two (i : Nat) (ks ks2 : List Nat)
mutual
inductive T where
  | pl (s : S) | raise (c : Nat) | callX (i : Nat) (es : Es) | retX (i : Nat) (es : Es) | asgX (k i : Nat) (es : Es) | ifX (neg : Bool) (i : Nat) (es : Es) (a b : Ts) | ifs (c : E) (a b : Ts) | tryX (b : Ts) (k : Nat) (cs : List Nat) (h : Hd) | stuck
inductive Ts where
  | nil | cons (t : T) (ts : Ts)
end
inductive FlX where
  | fl (f : Fl) | ex (c : Nat)
noncomputable def subC (c k : Nat) : Bool := k == c || k == 0 || k == 7
noncomputable def ansX (fa : Nat → List D → Option Ans) (i : Nat) (es : Es) (ρ : Env) : Option Ans := (evEs (prj fa) es ρ).bind fun rs => if rs.any SV.lent then none else fa i (rs.map seeD)
noncomputable def hdX (c : Nat) (ρ : Env) : Hd → Option (FlX × Env)
  | .ret ks => if ks.all (subC c) then some (.fl (.rt (.obj true (.lst (ks.map fun _ => .bl true)))), ρ) else none
  | .two _ _ _ => none
mutual
noncomputable def exT (fa : Nat → List D → Option Ans) (fuel : Nat) : T → Env → Option (FlX × Env)
  | .pl s, ρ => (exS fa fuel s ρ).map fun x => (.fl x.1, x.2)
  | .raise c, ρ => some (.ex c, ρ)
  | .callX i es, ρ => (ansX fa i es ρ).bind fun a => match a with
    | .ok _ [] => some (.fl .nx, ρ)
    | .ex c => some (.ex c, ρ)
    | _ => none
  | .retX i es, ρ => (ansX fa i es ρ).bind fun a => match a with
    | .ok r [] => if r.lent then none else some (.fl (.rt r), ρ)
    | .ex c => some (.ex c, ρ)
    | _ => none
  | .asgX k i es, ρ => (ansX fa i es ρ).bind fun a => match a with
    | .ok r [] => if r.lent || !free ρ k then none else some (.fl .nx, ρ.set k (some r))
    | .ex c => some (.ex c, ρ)
    | _ => none
  | .ifX neg i es a b, ρ => (ansX fa i es ρ).bind fun x => match x with
    | .ok (.val (.bl k)) [] => if k != neg then exTs fa fuel a ρ else exTs fa fuel b ρ
    | .ex c => some (.ex c, ρ)
    | _ => none
  | .ifs c a b, ρ => (evT (prj fa) c ρ).bind fun k => if k then exTs fa fuel a ρ else exTs fa fuel b ρ
  | .tryX b k cs h, ρ => (exTs fa fuel b ρ).bind fun x => match x.1 with
    | .fl _ => some x
    | .ex c => if cs.contains c then hdX c x.2 h else none
  | .stuck, _ => none
noncomputable def exTs (fa : Nat → List D → Option Ans) (fuel : Nat) : Ts → Env → Option (FlX × Env)
  | .nil, ρ => some (.fl .nx, ρ)
  | .cons t ts, ρ => (exT fa fuel t ρ).bind fun x => match x.1 with
    | .fl .nx => exTs fa fuel ts x.2
    | _ => some x
end
structure Fn where
  np : Nat
  nl : Nat
  body : Ss
  io : List Nat := []
  xb : Option Ts := none
noncomputable def endX : Option (FlX × Env) → Option Ans
  | some (.fl (.rt r), _) => some (.ok r [])
  | some (.fl .nx, _) => some (.ok (.val .non) [])
  | some (.ex c, _) => some (.ex c)
  | _ => none
noncomputable def zce (ρ : Env) : List Nat → Option (List D)
  | [] => some []
  | i :: r => match ρ[i]? with
    | some (some (.io d)) => (zce ρ r).map (d :: ·)
    | _ => none
noncomputable def endA (io : List Nat) : Option (Fl × Env) → Option Ans
  | some (.rt r, ρ) => (zce ρ io).map (Ans.ok r)
  | some (.nx, ρ) => (zce ρ io).map (Ans.ok (.val .non))
  | _ => none
noncomputable def zdb (io : List Nat) : Nat → List D → Env
  | _, [] => []
  | k, d :: r => some (if io.contains k then .io d else .val d) :: zdb io (k + 1) r
noncomputable def zas (P : Nat → Option Fn) (fuel : Nat) : Nat → Nat → List D → Option Ans
  | 0, _, _ => none
  | n + 1, f, ds => (P f).bind fun F => if ds.length = F.np then (match F.xb with
    | none => endA F.io (exSs (zas P fuel n) fuel F.body (zdb F.io 0 ds ++ List.replicate (F.nl - F.np) none))
    | some t => endX (exTs (zas P fuel n) fuel t (zdb [] 0 ds ++ List.replicate (F.nl - F.np) none))) else none
noncomputable def zaX (P : Nat → Option Fn) (fuel n : Nat) : Nat → List D → Option SV := prj (zas P fuel n)
theorem zpv {fn i ρ} : evE fn (E.int i) ρ = (some (.val (.int i))) := id rfl
theorem zwb {fn b ρ} : evE fn (E.bl b) ρ = (some (.val (.bl b))) := id rfl
theorem zsr {fn  ρ} : evE fn (E.non) ρ = (some (.val .non)) := id rfl
theorem zss {fn i ρ} : evE fn (E.var i) ρ = (look ρ i) := id rfl
theorem zbW {fn p es ρ} : evE fn (E.prim p es) ρ = ((evEs fn es ρ).bind fun rs => zaj p (rs.map seeD)) := id rfl
theorem zst {fn es ρ} : evE fn (E.tup es) ρ = ((evEs fn es ρ).bind fun rs => (toDs rs).map fun ds => .val (.tup ds)) := id rfl
theorem zsu {fn es ρ} : evE fn (E.lst es) ρ = ((evEs fn es ρ).bind fun rs => (toDs rs).map fun ds => SV.obj true (.lst ds)) := id rfl
theorem zsv {fn a b ρ} : evE fn (E.and a b) ρ = ((evE fn a ρ).bind fun r => match r with
    | .val (.bl true) => evE fn b ρ
    | .val (.bl false) => some (.val (.bl false))
    | _ => none) := id rfl
theorem zwc {fn a b ρ} : evE fn (E.or a b) ρ = ((evE fn a ρ).bind fun r => match r with
    | .val (.bl true) => some (.val (.bl true))
    | .val (.bl false) => evE fn b ρ
    | _ => none) := id rfl
theorem zoh {fn p q a b c ρ} : evE fn (E.chain p q a b c) ρ = ((evE fn a ρ).bind fun x => (evE fn b ρ).bind fun y => (zaj p [seeD x, seeD y]).bind fun z => match z with
    | .val (.bl true) => (evE fn c ρ).bind fun w => zaj q [seeD y, seeD w]
    | .val (.bl false) => some (.val (.bl false))
    | _ => none) := id rfl
theorem zsw {fn c a b ρ} : evE fn (E.ite c a b) ρ = ((evT fn c ρ).bind fun k => if k then evE fn a ρ else evE fn b ρ) := id rfl
theorem zmm {fn f es ρ} : evE fn (E.call f es) ρ = ((evEs fn es ρ).bind fun rs => zeb rs (fn f (rs.map seeD))) := id rfl
theorem zmn {fn t ρ} : evE fn (E.dnew t) ρ = (some (.obj true (.dct t [] []))) := id rfl
theorem zqq {fn t k v ρ} : evE fn (E.done t k v) ρ = ((evE fn k ρ).bind fun x => (evE fn v ρ).bind fun y => (toD x).bind fun a => (toD y).bind fun b => if zbH t a then some (.obj true (.dct t [a] [b])) else none) := id rfl
theorem zqr {fn rng src cond elt ρ} : evE fn (E.comp rng src cond elt) ρ = ((evEs fn src ρ).bind fun rs => (zaH rng rs).bind fun ds =>
    if ds.length ≤ line then (zdn (fun d => evT fn cond (some (.val d) :: ρ)) (fun d => evE fn elt (some (.val d) :: ρ)) ds).map fun l => SV.obj true (.lst l) else none) := id rfl
theorem zbA {fn  ρ} : evEs fn (Es.nil) ρ = (some []) := id rfl
theorem zbh {fn e es ρ} : evEs fn (Es.cons e es) ρ = ((evE fn e ρ).bind fun r => (evEs fn es ρ).map (r :: ·)) := id rfl
theorem zsx {fn a b ρ} : evT fn (E.and a b) ρ = ((evT fn a ρ).bind fun k => if k then evT fn b ρ else some false) := id rfl
theorem zwd {fn a b ρ} : evT fn (E.or a b) ρ = ((evT fn a ρ).bind fun k => if k then some true else evT fn b ρ) := id rfl
theorem zsy {fn a ρ} : evT fn (E.not a) ρ = ((evT fn a ρ).map (!·)) := id rfl
theorem zwe {fn b ρ} : evT fn (E.bl b) ρ = (some b) := id rfl
theorem zg4 {fn p es ρ} : evT fn (E.prim p es) ρ = ((evEs fn es ρ).bind fun rs => (zaj p (rs.map seeD)).bind zbI) := id rfl
theorem zoi {fn p q a b c ρ} : evT fn (E.chain p q a b c) ρ = ((evE fn a ρ).bind fun x => (evE fn b ρ).bind fun y => (zaj p [seeD x, seeD y]).bind fun z => match z with
    | .val (.bl true) => (evE fn c ρ).bind fun w => (zaj q [seeD y, seeD w]).bind zbI
    | .val (.bl false) => some false
    | _ => none) := id rfl
theorem zqs {fn f es ρ} : evT fn (E.call f es) ρ = ((evEs fn es ρ).bind fun rs => (zeb rs (fn f (rs.map seeD))).bind zbI) := id rfl
theorem zpw {fn  ρ} : evMA fn (MA.nil) ρ = (some []) := id rfl
theorem qA_e {fn c r ρ} : evMA fn (MA.e c r) ρ = ((evE fn c ρ).bind fun x => (avOf x).bind fun a => (evMA fn r ρ).map (a :: ·)) := id rfl
theorem qA_s {fn i r ρ} : evMA fn (MA.s i r) ρ = ((zcD ρ i).bind fun d => if zf7 d then (evMA fn r ρ).map (.s i d :: ·) else none) := id rfl
theorem qA_n {fn t r ρ} : evMA fn (MA.n t r) ρ = ((evMA fn r ρ).map (.n t :: ·)) := id rfl
theorem zqt {fa f ma ρ} : evM fa (M.call f ma) ρ = ((evMA (prj fa) ma ρ).bind fun xs => (fa f (xs.map seeA)).bind fun a => match a with
    | .ok r outs => if r.fine && outs.all zbO then (putO ρ xs outs).map fun ρ' => (r, ρ') else none
    | .ex _ => none) := id rfl
theorem zqu {fa fuel e ρ} : exS fa fuel (S.expr e) ρ = ((evE (prj fa) e ρ).map fun _ => (.nx, ρ)) := id rfl
theorem zsz {fa fuel i e ρ} : exS fa fuel (S.asg i e) ρ = ((evE (prj fa) e ρ).bind fun r => if r.lent || !free ρ i then none else some (.nx, ρ.set i (some r))) := id rfl
theorem zpx {fa fuel i j ρ} : exS fa fuel (S.mov i j) ρ = (if free ρ i then (match ρ[j]? with
    | some (some (.val d)) => some (.nx, ρ.set i (some (.val d)))
    | some (some (.obj _ d)) => some (.nx, (ρ.set j (some (.val d))).set i (some (.val d)))
    | _ => none) else none) := id rfl
theorem zpy {fa fuel i e ρ} : exS fa fuel (S.app i e) ρ = (match ρ[i]? with
    | some (some x) => (match x.cell with
      | some (.lst ds) => (evE (prj fa) e ρ).bind fun r => (toD r).bind fun d => if ds.length < line then some (.nx, ρ.set i (some (x.put (.lst (ds ++ [d]))))) else none
      | _ => none)
    | _ => none) := id rfl
theorem zqv {fa fuel i j ρ} : exS fa fuel (S.dupd i j) ρ = (zmj ρ i j) := id rfl
theorem zqw {fa fuel i j k e ρ} : exS fa fuel (S.unp3 i j k e) ρ = ((evE (prj fa) e ρ).bind (zmk ρ i j k)) := id rfl
theorem zmo {fa fuel i k v ρ} : exS fa fuel (S.dset i k v) ρ = (match ρ[i]? with
    | some (some x) => (match x.cell with
      | some (.dct t ks vs) => (evE (prj fa) v ρ).bind fun r => (toD r).bind fun d => (evE (prj fa) k ρ).bind fun r => (toD r).bind fun a => if zbH t a && decide (ks.length < line) then some (.nx, ρ.set i (some (x.put (dput t ks vs a d)))) else none
      | _ => none)
    | _ => none) := id rfl
theorem zqx {fa fuel i m ρ} : exS fa fuel (S.asgM i m) ρ = ((evM fa m ρ).bind fun x => if x.1.lent || !free x.2 i then none else some (.nx, x.2.set i (some (.val (seeD x.1))))) := id rfl
theorem zsA {fa fuel e ρ} : exS fa fuel (S.ret e) ρ = ((evE (prj fa) e ρ).bind fun r => if r.lent then none else some (.rt r, ρ)) := id rfl
theorem zmp {fa fuel i ρ} : exS fa fuel (S.retV i) ρ = (match ρ[i]? with
    | some (some (.val d)) => some (.rt (.val d), ρ)
    | some (some (.obj _ d)) => some (.rt (.obj true d), ρ.set i none)
    | _ => none) := id rfl
theorem zsB {fa fuel c a b ρ} : exS fa fuel (S.ifs c a b) ρ = ((evT (prj fa) c ρ).bind fun k => if k then exSs fa fuel a ρ else exSs fa fuel b ρ) := id rfl
theorem zqy {fa fuel i rng src body ρ} : exS fa fuel (S.for_ i rng src body) ρ = ((evEs (prj fa) src ρ).bind fun rs => if rs.any SV.lent || !free ρ i then none else (zaH rng rs).bind fun ds => forL i (exSs fa fuel body) ds ρ) := id rfl
theorem zqz {fa fuel i j body ρ} : exS fa fuel (S.forV i j body) ρ = (if free ρ i then (zgv ρ j).bind fun x => forL i (exSs fa fuel body) x.1 x.2 else none) := id rfl
theorem zmq {fa fuel c body ρ} : exS fa fuel (S.while_ c body) ρ = (zcy (evT (prj fa) c) (exSs fa fuel body) fuel ρ) := id rfl
theorem zqA {fa fuel  ρ} : exS fa fuel (S.stop) ρ = (none) := id rfl
theorem zqB {fa fuel  ρ} : exSs fa fuel (Ss.nil) ρ = (some (.nx, ρ)) := id rfl
theorem zoj {fa fuel s ss ρ} : exSs fa fuel (Ss.cons s ss) ρ = ((exS fa fuel s ρ).bind fun x => match x.1 with
    | .nx => exSs fa fuel ss x.2
    | _ => some x) := id rfl
theorem on1 {α : Type} {P : List α → Prop} (h : ∀ a0, P [a0]) (us : List α) (hl : us.length = 1) : P us := by
  cases us with
  | nil => cases hl
  | cons a0 r0 =>
    cases r0 with
    | nil => exact h a0
    | cons _ _ => simp at hl
theorem on2 {α : Type} {P : List α → Prop} (h : ∀ a0 a1, P [a0, a1]) (us : List α) (hl : us.length = 2) : P us := by
  cases us with
  | nil => cases hl
  | cons a0 r0 =>
    cases r0 with
    | nil => cases hl
    | cons a1 r1 =>
      cases r1 with
      | nil => exact h a0 a1
      | cons _ _ => simp at hl
theorem on3 {α : Type} {P : List α → Prop} (h : ∀ a0 a1 a2, P [a0, a1, a2]) (us : List α) (hl : us.length = 3) : P us := by
  cases us with
  | nil => cases hl
  | cons a0 r0 =>
    cases r0 with
    | nil => cases hl
    | cons a1 r1 =>
      cases r1 with
      | nil => cases hl
      | cons a2 r2 =>
        cases r2 with
        | nil => exact h a0 a1 a2
        | cons _ _ => simp at hl
theorem on4 {α : Type} {P : List α → Prop} (h : ∀ a0 a1 a2 a3, P [a0, a1, a2, a3]) (us : List α) (hl : us.length = 4) : P us := by
  cases us with
  | nil => cases hl
  | cons a0 r0 =>
    cases r0 with
    | nil => cases hl
    | cons a1 r1 =>
      cases r1 with
      | nil => cases hl
      | cons a2 r2 =>
        cases r2 with
        | nil => cases hl
        | cons a3 r3 =>
          cases r3 with
          | nil => exact h a0 a1 a2 a3
          | cons _ _ => simp at hl
end L2.LW
set_option linter.all false
set_option maxHeartbeats 4000000
namespace L2.LW
open PySem PySem.Spec PyProof.Rows
noncomputable def KLst (K : PySem.W.Frag) (a : Addr) (xs : List V) : Prop :=
  ∃ (o : Obj) (its : Array Value) (n : Nat), K.lookup a = some o ∧ o.cls = .type "list" ∧ o.dict = Option.none ∧ o.data = .seq its n ∧ its.size ≤ sizeLine ∧ Vals xs its.toList
noncomputable def dKof (ns : List Int) (ys : List V) : List (Key × V) := (ns.map Sum.inl).zip ys
noncomputable def dTof (ns : List (List Int)) (ys : List V) : List (List Key × V) := (ns.map fun l => l.map Sum.inl).zip ys
noncomputable def kT (l : List Int) : D := .tup (l.map D.int)
mutual
inductive Rep (K : PySem.W.Frag) (W : Addr → Prop) (H : Hp) : D → V → Prop where
  | int (i : Int) : Rep K W H (.int i) (.int i)
  | bl (b : Bool) : Rep K W H (.bl b) (.bl b)
  | non : Rep K W H .non .non
  | str (x : Str) : Rep K W H (.str x) (.str x)
  | tup {a : Addr} {xs : List V} {ds : List D} (h : H a = some (.tup xs)) (r : Reps K W H ds xs) : Rep K W H (.tup ds) (.ref a)
  | lst {a : Addr} {xs : List V} {ds : List D} (h : (¬ W a ∧ Rd H a (.lst xs)) ∨ KLst K a xs) (r : Reps K W H ds xs) : Rep K W H (.lst ds) (.ref a)
  | dK {a : Addr} {ns : List Int} {ys : List V} {vs : List D} (n : ¬ W a) (h : H a = some (.dK (dKof ns ys))) (l : ns.length = ys.length) (r : Reps K W H vs ys) : Rep K W H (.dct false (ns.map D.int) vs) (.ref a)
  | dT {a : Addr} {ns : List (List Int)} {ys : List V} {vs : List D} (n : ¬ W a) (h : H a = some (.dT (dTof ns ys))) (l : ns.length = ys.length) (r : Reps K W H vs ys) : Rep K W H (.dct true (ns.map kT) vs) (.ref a)
inductive Reps (K : PySem.W.Frag) (W : Addr → Prop) (H : Hp) : List D → List V → Prop where
  | nil : Reps K W H [] []
  | cons {d : D} {v : V} {ds : List D} {vs : List V} (h : Rep K W H d v) (t : Reps K W H ds vs) : Reps K W H (d :: ds) (v :: vs)
end
inductive ORep (K : PySem.W.Frag) (W : Addr → Prop) (H : Hp) : D → HO → Prop where
  | lst {xs : List V} {ds : List D} (r : Reps K W H ds xs) : ORep K W H (.lst ds) (.lst xs)
  | dK {ns : List Int} {ys : List V} {vs : List D} (l : ns.length = ys.length) (r : Reps K W H vs ys) : ORep K W H (.dct false (ns.map D.int) vs) (.dK (dKof ns ys))
  | dT {ns : List (List Int)} {ys : List V} {vs : List D} (l : ns.length = ys.length) (r : Reps K W H vs ys) : ORep K W H (.dct true (ns.map kT) vs) (.dT (dTof ns ys))
structure Ext (W : Addr → Prop) (H : Hp) (W' : Addr → Prop) (H' : Hp) : Prop where
  keep : ∀ a o, H a = some o → ¬ W a → H' a = some o
  tup : ∀ a xs, H a = some (.tup xs) → H' a = some (.tup xs)
  frz : ∀ a o u, H a = some (.frz o u) → H' a = some (.frz o u)
  win : ∀ a, W' a → W a ∨ H a = Option.none
theorem Ext.refl (W : Addr → Prop) (H : Hp) : Ext W H W H := ⟨fun _ _ h _ => h, fun _ _ h => h, fun _ _ _ h => h, fun _ h => .inl h⟩
theorem Ext.out {W W' : Addr → Prop} {H H' : Hp} (x : Ext W H W' H') {a : Addr} {o : HO} (h : H a = some o) (n : ¬ W a) : ¬ W' a := fun w => by
  rcases x.win a w with q | q
  · exact n q
  · rw [h] at q; cases q
theorem Ext.trans {W W1 W2 : Addr → Prop} {H H1 H2 : Hp} (x : Ext W H W1 H1) (y : Ext W1 H1 W2 H2) : Ext W H W2 H2 := by
  refine ⟨fun a o h n => y.keep a o (x.keep a o h n) (x.out h n), fun a xs h => y.tup a xs (x.tup a xs h), fun a o u h => y.frz a o u (x.frz a o u h), fun a w => ?_⟩
  rcases y.win a w with q | q
  · exact x.win a q
  · cases e : H a with
    | none => exact .inr rfl
    | some o =>
      by_cases hw : W a
      · exact .inl hw
      · rw [x.keep a o e hw] at q; cases q
theorem Ext.same {W : Addr → Prop} {H H' : Hp} (s : Same H H') : Ext W H W H' := ⟨fun a o h _ => s a o h, fun a xs h => s a _ h, fun a o u h => s a _ h, fun _ w => .inl w⟩
section
variable {K : PySem.W.Frag} {W W' : Addr → Prop} {H H' : Hp}
mutual
theorem Rep.ext (x : Ext W H W' H') : ∀ {d : D} {v : V}, Rep K W H d v → Rep K W' H' d v
  | _, _, .int i => .int i
  | _, _, .bl b => .bl b
  | _, _, .non => .non
  | _, _, .str s => .str s
  | _, _, .dK n h l r => .dK (x.out h n) (x.keep _ _ h n) l (Reps.ext x r)
  | _, _, .dT n h l r => .dT (x.out h n) (x.keep _ _ h n) l (Reps.ext x r)
  | _, _, .tup h r => .tup (x.tup _ _ h) (Reps.ext x r)
  | _, _, .lst h r => .lst (by
      rcases h with ⟨n, h | ⟨o, h⟩⟩ | h
      · exact .inl ⟨x.out h n, .inl (x.keep _ _ h n)⟩
      · exact .inl ⟨x.out h n, .inr ⟨o, x.keep _ _ h n⟩⟩
      · exact .inr h) (Reps.ext x r)
theorem Reps.ext (x : Ext W H W' H') : ∀ {ds : List D} {vs : List V}, Reps K W H ds vs → Reps K W' H' ds vs
  | _, _, .nil => .nil
  | _, _, .cons h t => .cons (Rep.ext x h) (Reps.ext x t)
end
mutual
theorem Rep.less (x : ∀ a, W' a → W a) : ∀ {d : D} {v : V}, Rep K W H d v → Rep K W' H d v
  | _, _, .int i => .int i
  | _, _, .bl b => .bl b
  | _, _, .non => .non
  | _, _, .str s => .str s
  | _, _, .dK n h l r => .dK (fun w => n (x _ w)) h l (Reps.less x r)
  | _, _, .dT n h l r => .dT (fun w => n (x _ w)) h l (Reps.less x r)
  | _, _, .tup h r => .tup h (Reps.less x r)
  | _, _, .lst h r => .lst (by
      rcases h with ⟨n, h⟩ | h
      · exact .inl ⟨fun w => n (x _ w), h⟩
      · exact .inr h) (Reps.less x r)
theorem Reps.less (x : ∀ a, W' a → W a) : ∀ {ds : List D} {vs : List V}, Reps K W H ds vs → Reps K W' H ds vs
  | _, _, .nil => .nil
  | _, _, .cons h t => .cons (Rep.less x h) (Reps.less x t)
end
mutual
theorem Rep.plain : ∀ {d : D} {v : V}, Rep K W H d v → LW.plain d = true → Rep K W' H d v
  | _, _, .int i, _ => .int i
  | _, _, .bl b, _ => .bl b
  | _, _, .non, _ => .non
  | _, _, .str s, _ => .str s
  | _, _, .tup h r, p => .tup h (Reps.plain r (by simpa [LW.plain] using p))
  | _, _, .lst h r, p => by simp [LW.plain] at p
  | _, _, .dK _ _ _ _, p => by simp [LW.plain] at p
  | _, _, .dT _ _ _ _, p => by simp [LW.plain] at p
theorem Reps.plain : ∀ {ds : List D} {vs : List V}, Reps K W H ds vs → zbq ds = true → Reps K W' H ds vs
  | _, _, .nil, _ => .nil
  | _, _, .cons h t, p => by
    simp only [zbq, Bool.and_eq_true] at p
    exact .cons (Rep.plain h p.1) (Reps.plain t p.2)
end
theorem Reps.length : ∀ {ds : List D} {vs : List V}, Reps K W H ds vs → ds.length = vs.length
  | _, _, .nil => rfl
  | _, _, .cons _ t => by simp [Reps.length t]
theorem Reps.get : ∀ {ds : List D} {vs : List V} {i : Nat} {d : D}, Reps K W H ds vs → ds[i]? = some d → ∃ v, vs[i]? = some v ∧ Rep K W H d v
  | _, _, _, _, .nil, e => by simp at e
  | _, _, 0, _, .cons h _, e => by simp at e; subst e; exact ⟨_, rfl, h⟩
  | _, _, i + 1, d, .cons _ t, e => by
    obtain ⟨v, h1, h2⟩ := Reps.get (i := i) (d := d) t (by simpa using e)
    exact ⟨v, by simpa using h1, h2⟩
theorem Reps.append : ∀ {ds es : List D} {vs us : List V}, Reps K W H ds vs → Reps K W H es us → Reps K W H (ds ++ es) (vs ++ us)
  | _, _, _, _, .nil, s => s
  | _, _, _, _, .cons h t, s => .cons h (Reps.append t s)
theorem Reps.take : ∀ {ds : List D} {vs : List V} (n : Nat), Reps K W H ds vs → Reps K W H (ds.take n) (vs.take n)
  | _, _, 0, _ => .nil
  | _, _, _ + 1, .nil => .nil
  | _, _, n + 1, .cons h t => .cons h (Reps.take n t)
theorem Reps.drop : ∀ {ds : List D} {vs : List V} (n : Nat), Reps K W H ds vs → Reps K W H (ds.drop n) (vs.drop n)
  | _, _, 0, r => r
  | _, _, _ + 1, .nil => .nil
  | _, _, n + 1, .cons _ t => Reps.drop n t
theorem Reps.ints : ∀ (ns : List Int), Reps K W H (ns.map D.int) (ns.map V.int)
  | [] => .nil
  | i :: r => .cons (.int i) (Reps.ints r)
theorem Reps.ofInts : ∀ {ds : List D} {vs : List V} {ns : List Int}, Reps K W H ds vs → ints? ds = some ns → vs = ns.map V.int
  | _, _, ns, .nil, e => by simp [ints?] at e; subst e; rfl
  | _, _, ns, .cons (d := d) h t, e => by
    cases h with
    | int i =>
      simp only [ints?, jo2] at e
      obtain ⟨ms, e1, rfl⟩ := e
      rw [Reps.ofInts t e1]; rfl
    | _ => simp [ints?] at e
theorem ORep.ext {d : D} {o : HO} (h : ORep K W H d o) (x : Ext W H W' H') : ORep K W' H' d o := by
  cases h with
  | lst r => exact .lst (r.ext x)
  | dK l r => exact .dK l (r.ext x)
  | dT l r => exact .dT l (r.ext x)
theorem ORep.less {d : D} {o : HO} (h : ORep K W H d o) (x : ∀ a, W' a → W a) : ORep K W' H d o := by
  cases h with
  | lst r => exact .lst (r.less x)
  | dK l r => exact .dK l (r.less x)
  | dT l r => exact .dT l (r.less x)
theorem ORep.plain {d : D} {o : HO} (h : ORep K W H d o) (p : zbO d = true) : ORep K W' H d o := by
  cases h with
  | lst r => exact .lst (r.plain p)
  | dK l r => exact .dK l (r.plain p)
  | dT l r => exact .dT l (r.plain p)
theorem ORep.rep {d : D} {o : HO} {a : Addr} (h : ORep K W H d o) (n : ¬ W a) (e : H a = some o) : Rep K W H d (.ref a) := by
  cases h with
  | lst r => exact .lst (.inl ⟨n, .inl e⟩) r
  | dK l r => exact .dK n e l r
  | dT l r => exact .dT n e l r
theorem ORep.kind {d : D} {o : HO} (h : ORep K W H d o) : (∀ xs, o ≠ .tup xs) ∧ (∀ b u, o ≠ .frz b u) := by
  cases h <;> exact ⟨fun _ z => (nomatch z), fun _ _ z => (nomatch z)⟩
noncomputable def add (W : Addr → Prop) (a : Addr) : Addr → Prop := fun b => W b ∨ b = a
inductive Frz (K : PySem.W.Frag) (W : Addr → Prop) (H : Hp) : SV → V → Prop where
  | val {d : D} {v : V} (h : Rep K W H d v) : Frz K W H (.val d) v
  | lis {d : D} {a : Addr} {o : HO} (h : ¬ W a) (e : H a = some o) (r : ORep K W H d o) : Frz K W H (.obj true d) (.ref a)
  | see {d : D} {a : Addr} {o : HO} (h : W a) (e : H a = some o) (r : ORep K W H d o) : Frz K W H (.obj false d) (.ref a)
inductive Res (K : PySem.W.Frag) (W : Addr → Prop) (H H' : Hp) : SV → V → Prop where
  | val {d : D} {v : V} (h : Rep K W H' d v) : Res K W H H' (.val d) v
  | new {d : D} {a : Addr} {o : HO} (h : H a = Option.none) (e : H' a = some o) (r : ORep K (add W a) H' d o) : Res K W H H' (.obj true d) (.ref a)
  | see {d : D} {a : Addr} {o : HO} (h : W a) (e : H' a = some o) (r : ORep K W H' d o) : Res K W H H' (.obj false d) (.ref a)
noncomputable def Wf (W : Addr → Prop) (H : Hp) : Prop := ∀ a, W a → H a ≠ Option.none
theorem Res.frz {r : SV} {v : V} (h : Res K W H H' r v) (wf : Wf W H) : Frz K W H' r v := by
  cases h with
  | val h => exact .val h
  | new h e r => exact .lis (fun w => wf _ w h) e (r.less fun b w => .inl w)
  | see h e r => exact .see h e r
theorem Frz.same {r : SV} {v : V} (h : Frz K W H r v) (s : Same H H') : Frz K W H' r v := by
  cases h with
  | val h => exact .val (h.ext (.same s))
  | lis h e r => exact .lis h (s _ _ e) (r.ext (.same s))
  | see h e r => exact .see h (s _ _ e) (r.ext (.same s))
noncomputable def Sees (K : PySem.W.Frag) (W : Addr → Prop) (H : Hp) (d : D) (v : V) : Prop :=
  Rep K W H d v ∨ ∃ a o, v = .ref a ∧ H a = some o ∧ ORep K W H d o
theorem Frz.sees {r : SV} {v : V} (h : Frz K W H r v) : Sees K W H (seeD r) v := by
  cases h with
  | val h => exact .inl h
  | lis h e r => exact .inr ⟨_, _, rfl, e, r⟩
  | see h e r => exact .inr ⟨_, _, rfl, e, r⟩
theorem Sees.lst {ds : List D} {v : V} (h : Sees K W H (.lst ds) v) : ∃ a xs, v = .ref a ∧ SqL K H a xs ∧ Reps K W H ds xs := by
  rcases h with h | ⟨a, o, rfl, e, r⟩
  · cases h with
    | lst h r =>
      rcases h with ⟨_, h⟩ | h
      · exact ⟨_, _, rfl, .inl h, r⟩
      · exact ⟨_, _, rfl, .inr h, r⟩
  · cases r with
    | lst r => exact ⟨_, _, rfl, .of e, r⟩
theorem Sees.tupH {ds : List D} {v : V} (h : Sees K W H (.tup ds) v) : ∃ a xs, v = .ref a ∧ H a = some (.tup xs) ∧ Reps K W H ds xs := by
  rcases h with h | ⟨a, o, rfl, e, r⟩
  · cases h with
    | tup h r => exact ⟨_, _, rfl, h, r⟩
  · cases r
theorem Sees.tup {ds : List D} {v : V} (h : Sees K W H (.tup ds) v) : ∃ a xs, v = .ref a ∧ SqT K H a xs ∧ Reps K W H ds xs := by
  obtain ⟨a, xs, e, h, r⟩ := h.tupH
  exact ⟨a, xs, e, .of h, r⟩
theorem Sees.dK {ks vs : List D} {v : V} (h : Sees K W H (.dct false ks vs) v) : ∃ a ns ys, v = .ref a ∧ ks = ns.map D.int ∧ H a = some (.dK (dKof ns ys)) ∧ ns.length = ys.length ∧ Reps K W H vs ys := by
  rcases h with h | ⟨a, o, rfl, e, r⟩
  · cases h with
    | dK n h l r => exact ⟨_, _, _, rfl, rfl, h, l, r⟩
  · cases r with
    | dK l r => exact ⟨_, _, _, rfl, rfl, e, l, r⟩
theorem Sees.dT {ks vs : List D} {v : V} (h : Sees K W H (.dct true ks vs) v) : ∃ a ns ys, v = .ref a ∧ ks = ns.map kT ∧ H a = some (.dT (dTof ns ys)) ∧ ns.length = ys.length ∧ Reps K W H vs ys := by
  rcases h with h | ⟨a, o, rfl, e, r⟩
  · cases h with
    | dT n h l r => exact ⟨_, _, _, rfl, rfl, h, l, r⟩
  · cases r with
    | dT l r => exact ⟨_, _, _, rfl, rfl, e, l, r⟩
theorem Sees.int {i : Int} {v : V} (h : Sees K W H (.int i) v) : v = .int i := by
  rcases h with h | ⟨a, o, rfl, e, r⟩
  · cases h; rfl
  · cases r
theorem Sees.bl {i : Bool} {v : V} (h : Sees K W H (.bl i) v) : v = .bl i := by
  rcases h with h | ⟨a, o, rfl, e, r⟩
  · cases h; rfl
  · cases r
theorem Sees.str {i : Str} {v : V} (h : Sees K W H (.str i) v) : v = .str i := by
  rcases h with h | ⟨a, o, rfl, e, r⟩
  · cases h; rfl
  · cases r
theorem Sees.non {v : V} (h : Sees K W H .non v) : v = .non := by
  rcases h with h | ⟨a, o, rfl, e, r⟩
  · cases h; rfl
  · cases r
theorem Frz.toD {r : SV} {v : V} {d : D} (h : Frz K W H r v) (e : LW.toD r = some d) : Rep K W H d v := by
  cases h with
  | val h => simp [LW.toD] at e; subst e; exact h
  | lis h e' r => simp [LW.toD] at e; subst e; exact r.rep h e'
  | see h e' r => simp [LW.toD] at e
noncomputable def Own (ρ : LW.Env) (σ : St) (a : Addr) : Prop := ∃ (i : Nat) (x : SV) (d : D), ρ[i]? = some (some x) ∧ x.cell = some d ∧ σ[i]? = some (some (.ref a))
structure R (K : PySem.W.Frag) (W : Addr → Prop) (ρ : LW.Env) (σ : St) (H : Hp) : Prop where
  val : ∀ (i : Nat) (d : D), ρ[i]? = some (some (.val d)) → ∃ v, σ[i]? = some (some v) ∧ Rep K W H d v
  nol : ∀ (i : Nat) (d : D), ρ[i]? ≠ some (some (.obj false d))
  own : ∀ (i : Nat) (x : SV) (d : D), ρ[i]? = some (some x) → x.cell = some d → ∃ a o, σ[i]? = some (some (.ref a)) ∧ W a ∧ H a = some o ∧ ORep K W H d o
  inj : ∀ (i j : Nat) (x y : SV) (d e : D) (a : Addr), ρ[i]? = some (some x) → ρ[j]? = some (some y) → x.cell = some d → y.cell = some e → σ[i]? = some (some (.ref a)) → σ[j]? = some (some (.ref a)) → i = j
  wf : Wf W H
  len : ρ.length = σ.length
theorem R.ownW {ρ : LW.Env} {σ : St} (r : R K W ρ σ H) {a : Addr} (o : Own ρ σ a) : W a ∧ ∃ o d, H a = some o ∧ ORep K W H d o := by
  obtain ⟨i, x, d, h1, h2, h3⟩ := o
  obtain ⟨b, o, e, w, q, z⟩ := r.own i x d h1 h2
  rw [h3] at e; cases e
  exact ⟨w, o, d, q, z⟩
theorem R.same {ρ : LW.Env} {σ : St} (r : R K W ρ σ H) (s : Same H H') : R K W ρ σ H' := by
  refine ⟨fun i d h => ?_, r.nol, fun i x d h h' => ?_, r.inj, fun a w => ?_, r.len⟩
  · obtain ⟨v, h1, h2⟩ := r.val i d h
    exact ⟨v, h1, h2.ext (.same s)⟩
  · obtain ⟨a, o, h1, h2, h3, h4⟩ := r.own i x d h h'
    exact ⟨a, o, h1, h2, s _ _ h3, h4.ext (.same s)⟩
  · cases e : H a with
    | none => exact absurd e (r.wf a w)
    | some o => rw [s a o e]; exact fun z => nomatch z
theorem R.look {ρ : LW.Env} {σ : St} (r : R K W ρ σ H) {i : Nat} {x : SV} (h : look ρ i = some x) : ∃ v, σ[i]? = some (some v) ∧ Frz K W H x v ∧ Res K W H H x v := by
  unfold LW.look at h
  split at h
  · rename_i d e
    cases h
    obtain ⟨v, h1, h2⟩ := r.val i d e
    exact ⟨v, h1, .val h2, .val h2⟩
  · rename_i o d e
    cases h
    cases o with
    | false => exact absurd e (r.nol i d)
    | true =>
      obtain ⟨a, o, h1, h2, h3, h4⟩ := r.own i _ d e rfl
      exact ⟨_, h1, .see h2 h3 h4, .see h2 h3 h4⟩
  · rename_i d e
    cases h
    obtain ⟨a, o, h1, h2, h3, h4⟩ := r.own i _ d e rfl
    exact ⟨_, h1, .see h2 h3 h4, .see h2 h3 h4⟩
  · cases h
noncomputable def isIo (ρ : LW.Env) (i : Nat) : Prop := ∃ d, ρ[i]? = some (some (.io d))
theorem zbX {ρ : LW.Env} {i : Nat} (h : LW.free ρ i = true) : ¬ isIo ρ i := fun zz0 => by
  obtain ⟨d, e⟩ := zz0
  unfold LW.free at h; rw [e] at h; cases h
theorem free_of {ρ : LW.Env} {i : Nat} (h : ¬ isIo ρ i) : LW.free ρ i = true := by
  unfold LW.free
  split
  · rename_i d e; exact absurd ⟨d, e⟩ h
  · rfl
structure SPost (K : PySem.W.Frag) (W : Addr → Prop) (ρ : LW.Env) (σ : St) (H : Hp) (W' : Addr → Prop) (ρ' : LW.Env) (σ' : St) (H' : Hp) : Prop where
  r : R K W' ρ' σ' H'
  keep : ∀ a o, H a = some o → ¬ Own ρ σ a → H' a = some o
  win : ∀ a, W' a → W a ∨ H a = Option.none
  wout : ∀ a, W a → ¬ Own ρ σ a → W' a ∧ ¬ Own ρ' σ' a
  io : ∀ i, (isIo ρ' i ↔ isIo ρ i) ∧ (isIo ρ i → σ'[i]? = σ[i]?)
theorem SPost.trans {W1 W2 : Addr → Prop} {ρ ρ1 ρ2 : LW.Env} {σ σ1 σ2 : St} {H1 H2 : Hp} (x : SPost K W ρ σ H W1 ρ1 σ1 H1) (y : SPost K W1 ρ1 σ1 H1 W2 ρ2 σ2 H2) (r0 : R K W ρ σ H) : SPost K W ρ σ H W2 ρ2 σ2 H2 := by
  have no1 : ∀ a o, H a = some o → ¬ Own ρ σ a → ¬ Own ρ1 σ1 a := fun a o h n z => by
    rcases x.win a (x.r.ownW z).1 with w | w
    · exact (x.wout a w n).2 z
    · rw [h] at w; cases w
  refine ⟨y.r, fun a o h n => y.keep a o (x.keep a o h n) (no1 a o h n), fun a w => ?_, fun a w n => ?_, fun i => ⟨(y.io i).1.trans (x.io i).1, fun z => ((y.io i).2 ((x.io i).1.mpr z)).trans ((x.io i).2 z)⟩⟩
  · rcases y.win a w with q | q
    · exact x.win a q
    · cases e : H a with
      | none => exact .inr rfl
      | some o =>
        by_cases n : Own ρ σ a
        · exact .inl (r0.ownW n).1
        · rw [x.keep a o e n] at q; cases q
  · obtain ⟨w1, n1⟩ := x.wout a w n
    exact y.wout a w1 n1
theorem SPost.ext {W1 : Addr → Prop} {ρ ρ1 : LW.Env} {σ σ1 : St} {H1 : Hp} (x : SPost K W ρ σ H W1 ρ1 σ1 H1) (r0 : R K W ρ σ H) : Ext W H W1 H1 := by
  refine ⟨fun a o h n => x.keep a o h fun z => n (r0.ownW z).1, fun a xs h => x.keep a _ h fun z => ?_, fun a o u h => x.keep a _ h fun z => ?_, x.win⟩
  · obtain ⟨_, o, d, e, q⟩ := r0.ownW z
    rw [h] at e; cases e; exact q.kind.1 xs rfl
  · obtain ⟨_, o, d, e, q⟩ := r0.ownW z
    rw [h] at e; cases e; exact q.kind.2 _ _ rfl
theorem SPost.same {ρ : LW.Env} {σ : St} (r0 : R K W ρ σ H) (s : Same H H') : SPost K W ρ σ H W ρ σ H' :=
  ⟨r0.same s, fun a o h _ => s a o h, fun a w => .inl w, fun a w n => ⟨w, n⟩, fun _ => ⟨.rfl, fun _ => rfl⟩⟩
end
noncomputable def IoAt (ρ : LW.Env) (σ : St) (a : Addr) : Prop := ∃ i, isIo ρ i ∧ σ[i]? = some (some (.ref a))
inductive Ret (K : PySem.W.Frag) (W : Addr → Prop) (ρ : LW.Env) (σ : St) (W' : Addr → Prop) (H' : Hp) : SV → V → Prop where
  | val {d : D} {v : V} (h : Rep K W' H' d v) : Ret K W ρ σ W' H' (.val d) v
  | new {d : D} {a : Addr} {o : HO} (h : W' a) (n : ¬ (W a ∧ ¬ Own ρ σ a)) (n' : ¬ IoAt ρ σ a) (e : H' a = some o) (r : ORep K W' H' d o) : Ret K W ρ σ W' H' (.obj true d) (.ref a)
noncomputable def tE (K : PySem.W.Frag) (fn : Nat → List D → Option SV) (c : E) : TE := fun σ H Q => ∃ W ρ r, R K W ρ σ H ∧ evE fn c ρ = some r ∧ ∀ v H', Same H H' → Res K W H H' r v → Q v H'
noncomputable def tV (K : PySem.W.Frag) (fn : Nat → List D → Option SV) (c : E) : TE := fun σ H Q => ∃ W ρ r, R K W ρ σ H ∧ evE fn c ρ = some r ∧ ∀ v H', Same H H' → Frz K W H' r v → Q v H'
noncomputable def tVs (K : PySem.W.Frag) (fn : Nat → List D → Option SV) (cs : Es) : TA := fun σ H Q => ∃ W ρ rs, R K W ρ σ H ∧ evEs fn cs ρ = some rs ∧ ∀ vs H', Same H H' → Paired (Frz K W H') rs vs → Q vs H'
noncomputable def tT (K : PySem.W.Frag) (fn : Nat → List D → Option SV) (c : E) : TT := fun σ H Q => ∃ W ρ b, R K W ρ σ H ∧ evT fn c ρ = some b ∧ ∀ H', Same H H' → Q b H'
noncomputable def FlOk (K : PySem.W.Frag) (W : Addr → Prop) (ρ : LW.Env) (σ : St) (W' : Addr → Prop) (ρ' : LW.Env) (σ' : St) (H' : Hp) (D : Ends) : Fl → Prop
  | .nx => D.nx σ' H'
  | .br => D.bk σ' H'
  | .ct => D.ct σ' H'
  | .rt r => ∀ v, Ret K W ρ σ W' H' r v → D.rt v H'
noncomputable def tSs (K : PySem.W.Frag) (ex : LW.Env → Option (Fl × LW.Env)) : TS := fun D σ H => ∃ W ρ x, R K W ρ σ H ∧ ex ρ = some x ∧ ∀ W' σ' H', SPost K W ρ σ H W' x.2 σ' H' → FlOk K W ρ σ W' x.2 σ' H' D x.1
theorem _root_.L2.PE.imp {X : Cx} {e : Expr} {t t' : TE} (h : PE X e t) (i : ∀ σ H Q, t' σ H Q → t σ H Q) : PE X e t' := fun pins s σ H Q I q => h pins s σ H Q I (i σ H Q q)
theorem _root_.L2.PT.imp {X : Cx} {e : Expr} {t t' : TT} (h : PT X e t) (i : ∀ σ H Q, t' σ H Q → t σ H Q) : PT X e t' := fun pins s σ H Q I q => h pins s σ H Q I (i σ H Q q)
theorem _root_.L2.PW.imp {X : Cx} {e : Expr} {t t' : TT} (h : PW X e t) (i : ∀ σ H Q, t' σ H Q → t σ H Q) : PW X e t' := fun wh pins s σ H Q I q => h wh pins s σ H Q I (i σ H Q q)
theorem _root_.L2.PA.imp {X : Cx} {e : List Expr} {t t' : TA} (h : PA X e t) (i : ∀ σ H Q, t' σ H Q → t σ H Q) : PA X e t' := fun pos pins s σ H Q I q => h pos pins s σ H Q I (i σ H Q q)
theorem _root_.L2.PS.imp {X : Cx} {e : Stmt} {t t' : TS} (h : PS X e t) (i : ∀ D σ H, t' D σ H → t D σ H) : PS X e t' := fun pins s σ H D I q => h pins s σ H D I (i D σ H q)
theorem _root_.L2.PSs.imp {X : Cx} {e : List Stmt} {t t' : TS} (h : PSs X e t) (i : ∀ D σ H, t' D σ H → t D σ H) : PSs X e t' := fun pins s σ H D I q => h pins s σ H D I (i D σ H q)
end L2.LW
set_option linter.all false
set_option maxHeartbeats 4000000
namespace L2.LW
open PySem PySem.Spec PyProof.Rows
noncomputable def VR (K : PySem.W.Frag) (f : List D → Option SV) (vs : List V) (H : Hp) (Q : VK) : Prop :=
  ∃ W ds r, Wf W H ∧ Paired (Sees K W H) ds vs ∧ f ds = some r ∧ ∀ v H', Same H H' → Res K W H H' r v → Q v H'
noncomputable def VR2 (K : PySem.W.Frag) (f : List D → Option SV) : R2 := fun x y H Q => VR K f [x, y] H Q
noncomputable def VR1 (K : PySem.W.Frag) (f : List D → Option SV) : V → Hp → VK → Prop := fun x H Q => VR K f [x] H Q
theorem pr1 {α β : Type} {F : α → β → Prop} {ds : List α} {x : β} (h : Paired F ds [x]) : ∃ d, ds = [d] ∧ F d x := by
  cases h with
  | cons h t => cases t; exact ⟨_, rfl, h⟩
theorem pr2 {α β : Type} {F : α → β → Prop} {ds : List α} {x y : β} (h : Paired F ds [x, y]) : ∃ d e, ds = [d, e] ∧ F d x ∧ F e y := by
  cases h with
  | cons h t =>
    obtain ⟨e, rfl, h2⟩ := pr1 t
    exact ⟨_, e, rfl, h, h2⟩
mutual
noncomputable def toPy : D → PyData
  | .int i => .int i
  | .bl b => .bool b
  | .non => .none
  | .str x => .str x
  | .tup l => .tuple (zcf l)
  | .lst l => .list (zcf l)
  | .dct _ _ _ => .dict []
noncomputable def zcf : List D → List PyData
  | [] => []
  | x :: xs => toPy x :: zcf xs
end
mutual
theorem zeQ : ∀ d e : D, PyData.eqv (toPy d) (toPy e) = eqD d e
  | .int a, e => by cases e <;> simp [toPy, PyData.eqv, eqD]
  | .bl a, e => by cases e <;> simp [toPy, PyData.eqv, eqD]
  | .non, e => by cases e <;> simp [toPy, PyData.eqv, eqD]
  | .str a, e => by cases e <;> simp [toPy, PyData.eqv, eqD]
  | .tup l, e => by
    cases e with
    | tup m => simp only [toPy, PyData.eqv, eqD]; exact zec l m
    | _ => simp [toPy, PyData.eqv, eqD]
  | .lst l, e => by
    cases e with
    | lst m => simp only [toPy, PyData.eqv, eqD]; exact zec l m
    | _ => simp [toPy, PyData.eqv, eqD]
  | .dct t a b, e => by cases e <;> simp [toPy, PyData.eqv, eqD]
theorem zec : ∀ ds es : List D, PyData.eqvAll (zcf ds) (zcf es) = eqDs ds es
  | [], [] => by simp [zcf, PyData.eqvAll, eqDs]
  | [], _ :: _ => by simp [zcf, PyData.eqvAll, eqDs]
  | _ :: _, [] => by simp [zcf, PyData.eqvAll, eqDs]
  | x :: xs, y :: ys => by simp only [zcf, PyData.eqvAll, eqDs]; rw [zeQ x y, zec xs ys]
end
theorem zdo {n : Nat} (ih : ∀ d, shal n d = true → (toPy d).canLay0 = true ∧ (toPy d).depth ≤ n) : ∀ l : List D, l.all (shal n) = true → PyData.canLayAll0 (zcf l) = true ∧ PyData.depthAll (zcf l) ≤ n
  | [], _ => by simp [zcf, PyData.canLayAll0, PyData.depthAll]
  | x :: xs, h => by
    simp only [List.all_cons, Bool.and_eq_true] at h
    obtain ⟨h1, h2⟩ := ih x h.1
    obtain ⟨h3, h4⟩ := zdo ih xs h.2
    refine ⟨by simp [zcf, PyData.canLayAll0, h1, h3], ?_⟩
    simp only [zcf, PyData.depthAll]
    omega
theorem za6 : ∀ (n : Nat) (d : D), shal n d = true → (toPy d).canLay0 = true ∧ (toPy d).depth ≤ n
  | _, .int _, _ => by simp [toPy, PyData.canLay0, PyData.depth]
  | _, .bl _, _ => by simp [toPy, PyData.canLay0, PyData.depth]
  | _, .non, _ => by simp [toPy, PyData.canLay0, PyData.depth]
  | _, .str _, h => by simp [shal] at h
  | 0, .dct _ _ _, h => by simp [shal] at h
  | _ + 1, .dct _ _ _, h => by simp [shal] at h
  | 0, .tup _, h => by simp [shal] at h
  | 0, .lst _, h => by simp [shal] at h
  | n + 1, .tup l, h => by
    obtain ⟨h1, h2⟩ := zdo (za6 n) l (by simpa [shal] using h)
    exact ⟨by simpa [toPy, PyData.canLay0] using h1, by simp only [toPy, PyData.depth]; omega⟩
  | n + 1, .lst l, h => by
    obtain ⟨h1, h2⟩ := zdo (za6 n) l (by simpa [shal] using h)
    exact ⟨by simpa [toPy, PyData.canLay0] using h1, by simp only [toPy, PyData.depth]; omega⟩
theorem zcF (d : D) : ∀ l : List D, ((zcf l).any fun y => PyData.eqv y (toPy d)) = l.any fun y => eqD y d
  | [] => by simp [zcf]
  | x :: xs => by simp only [zcf, List.any_cons]; rw [zeQ x d, zcF d xs]
section
variable {X : Cx} {pins : List (Addr × Obj)} {σ : St} {H : Hp} {s : Shared} {W : Addr → Prop}
mutual
theorem Rep.reads (I : Inv X pins σ H s) : ∀ {n : Nat} {d : D} {x : V} {v : Value}, shal n d = true → Rep X.K W H d x → RelV x v → ∃ as, Reads s.heap v (toPy d) as
  | _, _, _, _, _, .int i, r => by obtain ⟨t, rfl⟩ := r; exact ⟨_, .int _ _⟩
  | _, _, _, _, _, .bl b, r => by cases r; exact ⟨_, .bool _⟩
  | _, _, _, _, _, .non, r => by cases r; exact ⟨_, .none⟩
  | _, _, _, _, _, .str x, r => by obtain ⟨t, rfl⟩ := r; exact ⟨_, .str _ _⟩
  | 0, _, _, _, n, .tup h rs, r => by simp [shal] at n
  | 0, _, _, _, n, .lst h rs, r => by simp [shal] at n
  | _ + 1, _, _, _, n, .tup h rs, r => by
    cases r
    obtain ⟨its, rv, ⟨o, ho, hc, m, hd⟩, hz⟩ := I.tuple (.of h)
    obtain ⟨as, q⟩ := Reps.reads I (by simpa [shal] using n) rs rv
    exact ⟨as, by simp only [toPy]; exact .tuple ho hc hd (by simpa using q)⟩
  | _ + 1, _, _, _, n, .lst h rs, r => by
    cases r
    obtain ⟨its, rv, ⟨o, m, ho, hc, _, hd⟩, hz⟩ := I.list (show SqL X.K H _ _ from h.elim (fun z => .inl z.2) fun z => .inr z)
    obtain ⟨as, q⟩ := Reps.reads I (by simpa [shal] using n) rs rv
    exact ⟨_, by simp only [toPy]; exact .list ho hc hd (by simpa using q)⟩
  | 0, _, _, _, n, .dK _ _ _ _, r => by simp [shal] at n
  | 0, _, _, _, n, .dT _ _ _ _, r => by simp [shal] at n
  | _ + 1, _, _, _, n, .dK _ _ _ _, r => by simp [shal] at n
  | _ + 1, _, _, _, n, .dT _ _ _ _, r => by simp [shal] at n
theorem Reps.reads (I : Inv X pins σ H s) : ∀ {n : Nat} {ds : List D} {xs : List V} {vs : List Value}, ds.all (shal n) = true → Reps X.K W H ds xs → Vals xs vs → ∃ as, ReadsAll s.heap vs (zcf ds) as
  | _, _, _, _, _, .nil, r => by cases r; exact ⟨_, by simp only [zcf]; exact .nil⟩
  | _, _, _, _, n, .cons h t, r => by
    cases r with
    | cons r1 r2 =>
      simp only [List.all_cons, Bool.and_eq_true] at n
      obtain ⟨as, q1⟩ := Rep.reads I n.1 h r1
      obtain ⟨bs, q2⟩ := Reps.reads I n.2 t r2
      exact ⟨_, by simp only [zcf]; exact .cons q1 q2⟩
end
theorem Sees.reads (I : Inv X pins σ H s) {n : Nat} {d : D} {x : V} {v : Value} (hn : shal n d = true) (h : Sees X.K W H d x) (r : RelV x v) : ∃ as, Reads s.heap v (toPy d) as := by
  rcases h with h | ⟨a, o, rfl, e, rs⟩
  · exact h.reads I hn r
  · cases r
    cases rs with
    | lst rs =>
      obtain ⟨its, rv, ⟨o, m, ho, hc, _, hd⟩, hz⟩ := I.list (show SqL X.K H _ _ from .of e)
      cases n with
      | zero => simp [shal] at hn
      | succ n =>
        obtain ⟨as, q⟩ := rs.reads I (n := n) (by simpa [shal] using hn) rv
        exact ⟨_, by simp only [toPy]; exact .list ho hc hd (by simpa using q)⟩
    | dK l r => cases n <;> simp [shal] at hn
    | dT l r => cases n <;> simp [shal] at hn
theorem Sees.readsL (I : Inv X pins σ H s) {n : Nat} {l : List D} {x : V} {v : Value} (hn : l.all (shal n) = true) (h : Sees X.K W H (.lst l) x) (r : RelV x v) : ∃ as, Reads s.heap v (toPy (.lst l)) as :=
  h.reads I (n := n + 1) (by simpa [shal] using hn) r
theorem Sees.readsT (I : Inv X pins σ H s) {n : Nat} {l : List D} {x : V} {v : Value} (hn : l.all (shal n) = true) (h : Sees X.K W H (.tup l) x) (r : RelV x v) : ∃ as, Reads s.heap v (toPy (.tup l)) as :=
  h.reads I (n := n + 1) (by simpa [shal] using hn) r
end
theorem za1 {H : Hp} {p : Addr} (h : H p = Option.none) (o : HO) : Same H (upd H p o) := fun b u q => by rw [zaS (zbu q h)]; exact q
theorem zed {K : PySem.W.Frag} {W : Addr → Prop} {H : Hp} {p : Addr} {ds : List D} {xs : List V} (hp : H p = Option.none) (r : Reps K W H ds xs) : Res K W H (upd H p (.lst xs)) (.lis true ds) (.ref p) := by
  refine .new hp zbb (.lst (r.ext ⟨fun a o h _ => za1 hp _ a o h, fun a xs h => za1 hp _ a _ h, fun a o u h => za1 hp _ a _ h, fun a w => ?_⟩))
  rcases w with w | rfl
  · exact .inl w
  · exact .inr hp
theorem zmr {K : PySem.W.Frag} {W : Addr → Prop} {H : Hp} {p : Addr} {ds : List D} {xs : List V} (hp : H p = Option.none) (r : Reps K W H ds xs) : Res K W H (upd H p (.tup xs)) (.val (.tup ds)) (.ref p) :=
  .val (.tup zbb (r.ext (.same (za1 hp _))))
section
variable {X : Cx}
theorem ze9 : line = sizeLine := by rw [sizeLine_eq]; rfl
theorem zdp : ∀ {l : List D} {ns : List Int}, ints? l = some ns → l = ns.map D.int
  | [], ns, e => by simp [ints?] at e; subst e; rfl
  | d :: r, ns, e => by
    cases d with
    | int i =>
      simp only [ints?, jo2] at e
      obtain ⟨ms, e1, rfl⟩ := e
      rw [zdp e1]; rfl
    | _ => simp [ints?] at e
theorem zee (ns : List Int) : (ns.map Sum.inl).map kV = ns.map V.int := by
  rw [List.map_map]; rfl
theorem zdA : ∀ (a b : List Int), eqDs (a.map D.int) (b.map D.int) = decide (a = b)
  | [], [] => by simp [eqDs]
  | [], _ :: _ => by simp [eqDs]
  | _ :: _, [] => by simp [eqDs]
  | x :: xs, y :: ys => by
    rw [Bool.eq_iff_iff]
    simp [eqDs, eqD, zdA xs ys]
theorem zkm {a b : List Int} (h : (a.map Sum.inl : List Key) = b.map Sum.inl) : a = b := (List.map_inj_right (fun _ _ z => Sum.inl.inj z)).mp h
theorem zkn (k d : D) (ks : List D) : kix (d :: ks) k = if eqD d k then some 0 else (kix ks k).map (· + 1) := by
  unfold kix; rw [List.findIdx?_cons]
theorem zms : ∀ {ns : List Int} {ys : List V}, ns.length = ys.length → ∀ i : Int, valV (dKof ns ys) (.inl i) = (kix (ns.map D.int) (.int i)).bind fun j => ys[j]?
  | [], [], _, i => rfl
  | n :: ns, y :: ys, h, i => by
    have ih := zms (ns := ns) (ys := ys) (by simpa using h) i
    show valV ((Sum.inl n, y) :: dKof ns ys) (.inl i) = _
    rw [List.map_cons, zkn]
    by_cases e : n = i
    · rw [zdy (by simp [e])]; simp [eqD, e]
    · rw [zdz (by simp [e]), ih]
      have : eqD (.int n) (.int i) = false := by simp [eqD, e]
      rw [this]
      cases kix (ns.map D.int) (.int i) <;> simp
theorem zmt : ∀ {ns : List (List Int)} {ys : List V}, ns.length = ys.length → ∀ i : List Int, valV (dTof ns ys) (i.map Sum.inl) = (kix (ns.map kT) (kT i)).bind fun j => ys[j]?
  | [], [], _, i => rfl
  | n :: ns, y :: ys, h, i => by
    have ih := zmt (ns := ns) (ys := ys) (by simpa using h) i
    show valV ((n.map Sum.inl, y) :: dTof ns ys) (i.map Sum.inl) = _
    rw [List.map_cons, zkn]
    by_cases e : n = i
    · rw [zdy (by simp [e])]
      have : eqD (kT n) (kT i) = true := by simp [kT, eqD, zdA, e]
      rw [this]; rfl
    · rw [zdz (fun z => e (zkm z)), ih]
      have : eqD (kT n) (kT i) = false := by simp [kT, eqD, zdA, e]
      rw [this]
      cases kix (ns.map kT) (kT i) <;> simp
theorem zpz {ks : List D} {k : D} {j : Nat} (h : kix ks k = some j) : j < ks.length := by
  unfold kix at h
  obtain ⟨h1, _⟩ := List.findIdx?_eq_some_iff_getElem.mp h
  exact h1
theorem zjr {ns : List Int} {ys : List V} (h : ns.length = ys.length) {i : Int} : (valV (dKof ns ys) (.inl i)).isSome = (kix (ns.map D.int) (.int i)).isSome := by
  rw [zms h]
  cases e : kix (ns.map D.int) (.int i) with
  | none => rfl
  | some j => have := zpz e; simp at this; simp; omega
theorem zjs {ns : List (List Int)} {ys : List V} (h : ns.length = ys.length) {i : List Int} : (valV (dTof ns ys) (i.map Sum.inl)).isSome = (kix (ns.map kT) (kT i)).isSome := by
  rw [zmt h]
  cases e : kix (ns.map kT) (kT i) with
  | none => rfl
  | some j => have := zpz e; simp at this; simp; omega
theorem zwf {K : PySem.W.Frag} {W : Addr → Prop} {H : Hp} {ns : List Int} {ys : List V} {vs : List D} {i : Int} {d : D} (h : ns.length = ys.length) (r : Reps K W H vs ys) (e : dget (ns.map D.int) vs (.int i) = some d) : ∃ y, valV (dKof ns ys) (.inl i) = some y ∧ Rep K W H d y := by
  unfold dget at e
  rw [jo1] at e
  obtain ⟨j, e1, e2⟩ := e
  obtain ⟨y, e3, e4⟩ := r.get e2
  exact ⟨y, by rw [zms h, e1]; exact e3, e4⟩
theorem zwg {K : PySem.W.Frag} {W : Addr → Prop} {H : Hp} {ns : List (List Int)} {ys : List V} {vs : List D} {i : List Int} {d : D} (h : ns.length = ys.length) (r : Reps K W H vs ys) (e : dget (ns.map kT) vs (kT i) = some d) : ∃ y, valV (dTof ns ys) (i.map Sum.inl) = some y ∧ Rep K W H d y := by
  unfold dget at e
  rw [jo1] at e
  obtain ⟨j, e1, e2⟩ := e
  obtain ⟨y, e3, e4⟩ := r.get e2
  exact ⟨y, by rw [zmt h, e1]; exact e3, e4⟩
theorem zbv : OpR X (binaryOp .Add) (VR2 X.K (zaj .add)) := by
  rintro pins s σ H x y v u Q I rx ry ⟨W, ds, r, wf, hs, hf, q⟩
  obtain ⟨d, e, rfl, h1, h2⟩ := pr2 hs
  replace hf : pAdd [d, e] = some r := hf
  unfold pAdd at hf
  split at hf
  · rename_i a b z; cases z; cases hf
    cases h1.int; cases h2.int
    exact zr0 pins s σ H _ _ v u Q I rx ry ⟨_, _, rfl, rfl, q _ H (.refl H) (.val (.int _))⟩
  · rename_i a b z; cases z
    split at hf
    · rename_i hl
      cases hf
      obtain ⟨p, xs, rfl, hp, rp⟩ := h1.lst
      obtain ⟨p2, xs2, rfl, hp2, rp2⟩ := h2.lst
      cases rx; cases ry
      obtain ⟨its, rv, ⟨⟨c1, d1, da1, sl1⟩, n, ho, hc, hdd, hd⟩, hz⟩ := I.list hp
      obtain ⟨its2, rv2, ⟨⟨c2, d2, da2, sl2⟩, n2, ho2, hc2, hdd2, hd2⟩, hz2⟩ := I.list hp2
      simp only at hc hd hdd hc2 hd2 hdd2
      subst hc hd hdd hc2 hd2 hdd2
      have l1 := rv.length
      have l2 := rv2.length
      have l3 := rp.length
      have l4 := rp2.length
      have le := ze9
      refine concat_meets ⟨_, ho, rfl⟩ ⟨_, ho2, rfl⟩ noFill_list_add seq_list_add PySem.F.slot_list_add PySem.F.entry_list_add (PySem.F.args_list_add_2 _ _) (list_addW p p2 its.toArray its2.toArray n n2 Option.none Option.none sl1 sl2 (by simp; omega)) ⟨ho, ho2, ?_⟩
      have e : its.toArray ++ its2.toArray = (its ++ its2).toArray := by simp
      rw [e]
      exact ⟨.ref _, _, I.lnew (t' := s.toks) (rv.append rv2) (by rw [List.length_append]; omega), rfl, q _ _ (za1 I.fresh _) (zed I.fresh (rp.append rp2))⟩
    · cases hf
  · cases hf
theorem zcz : OpR X (binaryOp .Sub) (VR2 X.K (zaj .sub)) := by
  rintro pins s σ H x y v u Q I rx ry ⟨W, ds, r, wf, hs, hf, q⟩
  obtain ⟨d, e, rfl, h1, h2⟩ := pr2 hs
  replace hf : pSub [d, e] = some r := hf
  unfold pSub at hf
  split at hf
  · rename_i a b z; cases z; cases hf
    cases h1.int; cases h2.int
    exact zr1 pins s σ H _ _ v u Q I rx ry ⟨_, _, rfl, rfl, q _ H (.refl H) (.val (.int _))⟩
  · cases hf
theorem zgw : OpR X (binaryOp .Mult) (VR2 X.K (zaj .mul)) := by
  rintro pins s σ H x y v u Q I rx ry ⟨W, ds, r, wf, hs, hf, q⟩
  obtain ⟨d, e, rfl, h1, h2⟩ := pr2 hs
  replace hf : pMul [d, e] = some r := hf
  unfold pMul at hf
  split at hf
  · rename_i a b z; cases z
    split at hf
    · rename_i hc
      cases hf
      cases h1.int; cases h2.int
      exact zr2 pins s σ H _ _ v u Q I rx ry ⟨_, _, rfl, rfl, hc, q _ H (.refl H) (.val (.int _))⟩
    · cases hf
  · cases hf
theorem zg5 : OpR X (binaryOp .FloorDiv) (VR2 X.K (zaj .fdiv)) := by
  rintro pins s σ H x y v u Q I rx ry ⟨W, ds, r, wf, hs, hf, q⟩
  obtain ⟨d, e, rfl, h1, h2⟩ := pr2 hs
  replace hf : zoc [d, e] = some r := hf
  unfold zoc at hf
  split at hf
  · rename_i a b z; cases z
    split at hf
    · rename_i hc
      cases hf
      cases h1.int; cases h2.int
      exact zp9 pins s σ H _ _ v u Q I rx ry ⟨_, _, rfl, rfl, hc, q _ H (.refl H) (.val (.int _))⟩
    · cases hf
  · cases hf
theorem zcG : OpR X (binaryOp .Mod) (VR2 X.K (zaj .mod)) := by
  rintro pins s σ H x y v u Q I rx ry ⟨W, ds, r, wf, hs, hf, q⟩
  obtain ⟨d, e, rfl, h1, h2⟩ := pr2 hs
  replace hf : pMod [d, e] = some r := hf
  unfold pMod at hf
  split at hf
  · rename_i a b z; cases z
    split at hf
    · rename_i hc
      cases hf
      cases h1.int; cases h2.int
      exact zr3 pins s σ H _ _ v u Q I rx ry ⟨_, _, rfl, rfl, hc, q _ H (.refl H) (.val (.int _))⟩
    · cases hf
  · cases hf
theorem zib : UnR X (unaryOp .USub) (VR1 X.K (zaj .neg)) := by
  rintro pins s σ H x v Q I rx ⟨W, ds, r, wf, hs, hf, q⟩
  obtain ⟨d, rfl, h1⟩ := pr1 hs
  replace hf : pNeg [d] = some r := hf
  unfold pNeg at hf
  split at hf
  · rename_i a z; cases z; cases hf
    cases h1.int
    exact zr4 pins s σ H _ v Q I rx ⟨_, rfl, q _ H (.refl H) (.val (.int _))⟩
  · cases hf
theorem zsC {A : Around} (hu : A.units + 64 < cLine) {d e : D} (h : shal 8 d = true) : A.units + min (toPy d).depth (toPy e).depth < cLine := by
  have h1 := (za6 8 d h).2
  have h2 : min (toPy d).depth (toPy e).depth ≤ (toPy d).depth := Nat.min_le_left _ _
  omega
theorem zic (hu : X.A.units + 64 < cLine) : OpR X (compareOp .Eq) (VR2 X.K (zaj .eq)) := by
  rintro pins s σ H x y v u Q I rx ry ⟨W, ds, r, wf, hs, hf, q⟩
  obtain ⟨d, e, rfl, h1, h2⟩ := pr2 hs
  replace hf : pEq [d, e] = some r := hf
  simp only [pEq] at hf
  split at hf
  · rename_i hc
    rw [Bool.and_eq_true] at hc
    cases hf
    obtain ⟨as, ra⟩ := h1.reads I hc.1 rx
    obtain ⟨bs, rb⟩ := h2.reads I hc.2 ry
    refine SeqAt.compareEq_reads ra rb (za6 8 d hc.1).1 (za6 8 e hc.2).1 (zsC hu hc.1) ?_
    rw [zeQ]
    exact ⟨.bl _, H, I, rfl, q _ H (.refl H) (.val (.bl _))⟩
  · cases hf
theorem zmu (hu : X.A.units + 64 < cLine) : OpR X (compareOp .NotEq) (VR2 X.K (zaj .ne)) := by
  rintro pins s σ H x y v u Q I rx ry ⟨W, ds, r, wf, hs, hf, q⟩
  obtain ⟨d, e, rfl, h1, h2⟩ := pr2 hs
  replace hf : pNe [d, e] = some r := hf
  simp only [pNe] at hf
  split at hf
  · rename_i hc
    rw [Bool.and_eq_true] at hc
    cases hf
    obtain ⟨as, ra⟩ := h1.reads I hc.1 rx
    obtain ⟨bs, rb⟩ := h2.reads I hc.2 ry
    refine SeqAt.compareNe_reads ra rb (za6 8 d hc.1).1 (za6 8 e hc.2).1 (zsC hu hc.1) ?_
    rw [zeQ]
    exact ⟨.bl _, H, I, rfl, q _ H (.refl H) (.val (.bl _))⟩
  · cases hf
theorem zok {A : Around} (hu : A.units + 64 < cLine) {d : D} {l : List PyData} (h : shal 8 d = true) : A.units + 1 + min (PyData.depthAll l) (toPy d).depth < cLine := by
  have h1 := (za6 8 d h).2
  have h2 : min (PyData.depthAll l) (toPy d).depth ≤ (toPy d).depth := Nat.min_le_right _ _
  omega
theorem zsD (hu : X.A.units + 64 < cLine) : OpR X (compareOp .In) (VR2 X.K (zaj .inn)) := by
  rintro pins s σ H x y v u Q I rx ry ⟨W, ds, r, wf, hs, hf, q⟩
  obtain ⟨d, e, rfl, h1, h2⟩ := pr2 hs
  replace hf : pIn [d, e] = some r := hf
  unfold pIn at hf
  split at hf
  · rename_i x t ks vs z; cases z
    split at hf
    · rename_i hk
      cases hf
      cases t with
      | false =>
        cases d with
        | int i =>
          cases h1.int
          obtain ⟨a, ns, ys, rfl, rfl, hH, hl, _⟩ := h2.dK
          cases ry
          exact d_in (by omega) I (DGet.k (k := .inl i) hH) rx fun s' I' => ⟨.bl _, H, I', rfl, q _ H (.refl H) (.val (by rw [zjr hl]; exact .bl _))⟩
        | _ => simp [zbH] at hk
      | true =>
        cases d with
        | tup l =>
          obtain ⟨ms, hms⟩ : ∃ ms, ints? l = some ms := by simp only [zbH, Option.isSome_iff_exists] at hk; exact hk
          obtain ⟨b, xs, rfl, hb, rp⟩ := h1.tupH
          obtain ⟨a, ns, ys, rfl, rfl, hH, hl, _⟩ := h2.dT
          cases ry
          have e1 := rp.ofInts hms
          have e2 := zdp hms
          subst e1 e2
          exact d_in (by omega) I (DGet.t (k := ms.map Sum.inl) hH (by rw [hb, zee])) rx fun s' I' => ⟨.bl _, H, I', rfl, q _ H (.refl H) (.val (by rw [zjs hl]; exact .bl _))⟩
        | _ => simp [zbH] at hk
    · cases hf
  · rename_i d l z; cases z
    split at hf
    · rename_i hc
      rw [Bool.and_eq_true] at hc
      cases hf
      obtain ⟨as, ra⟩ := h1.reads I hc.1 rx
      obtain ⟨bs, rb⟩ := h2.readsT I hc.2 ry
      simp only [toPy] at rb
      refine SeqAt.in_tuple_reads rb ra (zdo (za6 8) l hc.2).1 (za6 8 d hc.1).1 (zok hu hc.1) ?_
      rw [zcF]
      exact ⟨.bl _, H, I, rfl, q _ H (.refl H) (.val (.bl _))⟩
    · cases hf
  · rename_i d l z; cases z
    split at hf
    · rename_i hc
      rw [Bool.and_eq_true] at hc
      cases hf
      obtain ⟨as, ra⟩ := h1.reads I hc.1 rx
      obtain ⟨bs, rb⟩ := h2.readsL I hc.2 ry
      simp only [toPy] at rb
      refine SeqAt.in_list_reads rb ra (zdo (za6 8) l hc.2).1 (za6 8 d hc.1).1 (zok hu hc.1) ?_
      rw [zcF]
      exact ⟨.bl _, H, I, rfl, q _ H (.refl H) (.val (.bl _))⟩
    · cases hf
  · cases hf
theorem zgx (hu : X.A.units + 64 < cLine) : OpR X (compareOp .NotIn) (VR2 X.K (zaj .nin)) := by
  rintro pins s σ H x y v u Q I rx ry ⟨W, ds, r, wf, hs, hf, q⟩
  obtain ⟨d, e, rfl, h1, h2⟩ := pr2 hs
  replace hf : pNin [d, e] = some r := hf
  unfold pNin at hf
  split at hf
  · rename_i x t ks vs z; cases z
    split at hf
    · rename_i hk
      cases hf
      cases t with
      | false =>
        cases d with
        | int i =>
          cases h1.int
          obtain ⟨a, ns, ys, rfl, rfl, hH, hl, _⟩ := h2.dK
          cases ry
          exact zme (by omega) I (DGet.k (k := .inl i) hH) rx fun s' I' => ⟨.bl _, H, I', rfl, q _ H (.refl H) (.val (by rw [zjr hl]; exact .bl _))⟩
        | _ => simp [zbH] at hk
      | true =>
        cases d with
        | tup l =>
          obtain ⟨ms, hms⟩ : ∃ ms, ints? l = some ms := by simp only [zbH, Option.isSome_iff_exists] at hk; exact hk
          obtain ⟨b, xs, rfl, hb, rp⟩ := h1.tupH
          obtain ⟨a, ns, ys, rfl, rfl, hH, hl, _⟩ := h2.dT
          cases ry
          have e1 := rp.ofInts hms
          have e2 := zdp hms
          subst e1 e2
          exact zme (by omega) I (DGet.t (k := ms.map Sum.inl) hH (by rw [hb, zee])) rx fun s' I' => ⟨.bl _, H, I', rfl, q _ H (.refl H) (.val (by rw [zjs hl]; exact .bl _))⟩
        | _ => simp [zbH] at hk
    · cases hf
  · rename_i d l z; cases z
    split at hf
    · rename_i hc
      rw [Bool.and_eq_true] at hc
      cases hf
      obtain ⟨as, ra⟩ := h1.reads I hc.1 rx
      obtain ⟨bs, rb⟩ := h2.readsT I hc.2 ry
      simp only [toPy] at rb
      refine SeqAt.notIn_tuple_reads rb ra (zdo (za6 8) l hc.2).1 (za6 8 d hc.1).1 (zok hu hc.1) ?_
      rw [zcF]
      exact ⟨.bl _, H, I, rfl, q _ H (.refl H) (.val (.bl _))⟩
    · cases hf
  · rename_i d l z; cases z
    split at hf
    · rename_i hc
      rw [Bool.and_eq_true] at hc
      cases hf
      obtain ⟨as, ra⟩ := h1.reads I hc.1 rx
      obtain ⟨bs, rb⟩ := h2.readsL I hc.2 ry
      simp only [toPy] at rb
      refine SeqAt.notIn_list_reads rb ra (zdo (za6 8) l hc.2).1 (za6 8 d hc.1).1 (zok hu hc.1) ?_
      rw [zcF]
      exact ⟨.bl _, H, I, rfl, q _ H (.refl H) (.val (.bl _))⟩
    · cases hf
  · cases hf
theorem zko : ∀ x y : List Int, LW.lexLt x y = HT.lexLt x y
  | [], [] => rfl
  | [], _ :: _ => rfl
  | _ :: _, [] => rfl
  | a :: x, b :: y => by rw [HT.lexLt_cons, LW.lexLt, zko x y]
theorem zsE (hu : X.A.units + 64 < cLine) : OpR X (compareOp .Lt) (VR2 X.K (zaj .lt)) := by
  rintro pins s σ H x y v u Q I rx ry ⟨W, ds, r, wf, hs, hf, q⟩
  obtain ⟨d, e, rfl, h1, h2⟩ := pr2 hs
  replace hf : pLt [d, e] = some r := hf
  unfold pLt at hf
  split at hf
  · rename_i a b z; cases z; cases hf
    cases h1.int; cases h2.int
    exact zvT pins s σ H _ _ v u Q I rx ry ⟨_, _, rfl, rfl, q _ H (.refl H) (.val (.bl _))⟩
  · rename_i a b z; cases z
    simp only [jo1] at hf
    obtain ⟨ns, e1, ms, e2, hf⟩ := hf
    cases hf
    obtain ⟨p, xs, rfl, hp, rp⟩ := h1.tup
    obtain ⟨p2, xs2, rfl, hp2, rp2⟩ := h2.tup
    rw [rp.ofInts e1] at hp
    rw [rp2.ofInts e2] at hp2
    refine zsa (by omega) pins s σ H _ _ v u Q I rx ry ⟨_, _, ns, ms, rfl, rfl, hp, hp2, ?_⟩
    rw [← zko]
    exact q _ H (.refl H) (.val (.bl _))
  · cases hf
theorem zmv : OpR X (compareOp .LtE) (VR2 X.K (zaj .le)) := by
  rintro pins s σ H x y v u Q I rx ry ⟨W, ds, r, wf, hs, hf, q⟩
  obtain ⟨d, e, rfl, h1, h2⟩ := pr2 hs
  replace hf : pLe [d, e] = some r := hf
  unfold pLe at hf
  split at hf
  · rename_i a b z; cases z; cases hf
    cases h1.int; cases h2.int
    exact zvU pins s σ H _ _ v u Q I rx ry ⟨_, _, rfl, rfl, q _ H (.refl H) (.val (.bl _))⟩
  · cases hf
theorem zqC : OpR X (compareOp .Gt) (VR2 X.K (zaj .gt)) := by
  rintro pins s σ H x y v u Q I rx ry ⟨W, ds, r, wf, hs, hf, q⟩
  obtain ⟨d, e, rfl, h1, h2⟩ := pr2 hs
  replace hf : pGt [d, e] = some r := hf
  unfold pGt at hf
  split at hf
  · rename_i a b z; cases z; cases hf
    cases h1.int; cases h2.int
    exact zvV pins s σ H _ _ v u Q I rx ry ⟨_, _, rfl, rfl, q _ H (.refl H) (.val (.bl _))⟩
  · cases hf
theorem zmw {K : PySem.W.Frag} {W : Addr → Prop} {H : Hp} {ds : List D} {xs : List V} {i : Int} {d : D} (r : Reps K W H ds xs) (h : LW.atI ds i = some d) : ∃ x, L2.atI xs i = some x ∧ Rep K W H d x := by
  unfold LW.atI at h
  unfold L2.atI
  rw [jo1] at h
  obtain ⟨j, h1, h2⟩ := h
  obtain ⟨x, e, q⟩ := r.get h2
  refine ⟨x, ?_, q⟩
  rw [← r.length]
  rw [jo1]
  exact ⟨j, h1, e⟩
theorem zmx {value slice : Expr} {pins : List (Addr × Obj)} {s : Shared} {σ : St} {H : Hp} {a : Addr} {y v : V} {u : Value} {Q : VK} (hu : X.A.units + 64 < cLine) (I : Inv X pins σ H s) (g : DGet H a y (some v)) (ry : RelV y u) (q : Q v H)
    (hs : subscripted slice false (.ref a) u = operate [.ref a, u] (getItem (.ref a) u)) : wpAny (model X.prog X.w) X.A (subscriptTail value slice (.ref a) u) (EP X pins σ Q) X.xe s := by
  have hT := zjp I g
  unfold subscriptTail
  refine wpAny_bind ?_
  rw [getitemInPython_of_ne hT.not_modules]
  refine wpAny_bind (wpAny_specialOf hT PySem.F.slot_dict_getitem.lookup ?_)
  have fin : wpAny (model X.prog X.w) X.A (subscripted slice false (.ref a) u) (fun r s₃ => wpAny (model X.prog X.w) X.A (letTemporaryGo value (.ref a) r >>= fun _ => pure r) (EP X pins σ Q) X.xe s₃) X.xe s := by
    rw [hs]
    refine wpAny_operating (wpAny_mono (zmd (Q := EP X pins σ Q) (by omega) I g ry fun w' s' I' rv => ⟨v, H, I', rv, q⟩) (fun r s₃ h₃ => wpAny_bind (wpAny_letTemporaryGo (wpAny_pure h₃))) fun _ _ x => x)
  first
    | exact wpAny_pure (wpAny_bind fin)
    | exact wpAny_bind (wpAny_pure (wpAny_bind fin))
    | exact wpAny_pure (wpAny_bind (wpAny_pure (wpAny_bind fin)))
    | exact wpAny_bind (wpAny_bind (wpAny_pure fin))
theorem zsF (hu : X.A.units + 64 < cLine) : IxR X (VR2 X.K (zaj .idx)) := by
  rintro value slice pins s σ H x y v u Q I rx ry ⟨W, ds, r, wf, hs, hf, q⟩ hsub
  obtain ⟨d, e, rfl, h1, h2⟩ := pr2 hs
  replace hf : pIdx [d, e] = some r := hf
  unfold pIdx at hf
  split at hf
  · rename_i t ks vs k z; cases z
    split at hf
    · rename_i hk
      rw [jo2] at hf
      obtain ⟨d', e1, rfl⟩ := hf
      cases t with
      | false =>
        cases e with
        | int i =>
          cases h2.int
          obtain ⟨a, ns, ys, rfl, rfl, hH, hl, rp⟩ := h1.dK
          cases rx
          obtain ⟨y, e2, ry'⟩ := zwf hl rp e1
          exact zmx hu I (by rw [← e2]; exact DGet.k (k := .inl i) hH) ry (q _ H (.refl H) (.val ry')) hsub
        | _ => simp [zbH] at hk
      | true =>
        cases e with
        | tup l =>
          obtain ⟨ms, hms⟩ : ∃ ms, ints? l = some ms := by simp only [zbH, Option.isSome_iff_exists] at hk; exact hk
          obtain ⟨b, xs, rfl, hb, rpb⟩ := h2.tupH
          obtain ⟨a, ns, ys, rfl, rfl, hH, hl, rp⟩ := h1.dT
          cases rx
          have z1 := rpb.ofInts hms
          have z2 := zdp hms
          subst z1 z2
          obtain ⟨y, e2, ry'⟩ := zwg hl rp e1
          exact zmx hu I (by rw [← e2]; exact DGet.t (k := ms.map Sum.inl) hH (by rw [hb, zee])) ry (q _ H (.refl H) (.val ry')) hsub
        | _ => simp [zbH] at hk
    · cases hf
  · rename_i l i z; cases z
    rw [jo2] at hf
    obtain ⟨d, e1, rfl⟩ := hf
    obtain ⟨p, xs, rfl, hp, rp⟩ := h1.tup
    cases h2.int
    obtain ⟨z, e2, rz⟩ := zmw rp e1
    exact zsb value slice pins s σ H _ _ v u Q I rx ry ⟨p, xs, i, z, rfl, rfl, hp, e2, q _ H (.refl H) (.val rz)⟩ hsub
  · rename_i l i z; cases z
    rw [jo2] at hf
    obtain ⟨d, e1, rfl⟩ := hf
    obtain ⟨p, xs, rfl, hp, rp⟩ := h1.lst
    cases h2.int
    obtain ⟨z, e2, rz⟩ := zmw rp e1
    exact zqh value slice pins s σ H _ _ v u Q I rx ry ⟨p, xs, i, z, rfl, rfl, hp, e2, q _ H (.refl H) (.val rz)⟩ hsub
  · cases hf
theorem zfa : CallR X (.builtin "len") (VR X.K (zaj .len)) := by
  rintro pins s σ H xs us Q I rv ⟨W, ds, r, wf, hs, hf, q⟩
  replace hf : pLen ds = some r := hf
  unfold pLen at hf
  split at hf
  · cases hf
    cases hs with
    | cons h1 t =>
      cases t
      obtain ⟨p, ys, rfl, hp, rp⟩ := h1.tup
      refine zeo pins s σ H _ us Q I rv ⟨p, ys, rfl, .inr hp, ?_⟩
      rw [← rp.length]
      exact q _ H (.refl H) (.val (.int _))
  · cases hf
    cases hs with
    | cons h1 t =>
      cases t
      obtain ⟨p, ys, rfl, hp, rp⟩ := h1.lst
      refine zeo pins s σ H _ us Q I rv ⟨p, ys, rfl, .inl hp, ?_⟩
      rw [← rp.length]
      exact q _ H (.refl H) (.val (.int _))
  · cases hf
theorem zkp : CallR X (.builtin "abs") (VR X.K (zaj .abs)) := by
  rintro pins s σ H xs us Q I rv ⟨W, ds, r, wf, hs, hf, q⟩
  replace hf : pAbs ds = some r := hf
  unfold pAbs at hf
  split at hf
  · cases hf
    cases hs with
    | cons h1 t =>
      cases t
      cases h1.int
      exact zn3 pins s σ H _ us Q I rv ⟨_, rfl, q _ H (.refl H) (.val (.int _))⟩
  · cases hf
theorem zqD (hc : X.calm = true) : CallR X (.builtin "min") (VR X.K (zaj .min2)) := by
  rintro pins s σ H xs us Q I rv ⟨W, ds, r, wf, hs, hf, q⟩
  replace hf : zqm ds = some r := hf
  unfold zqm at hf
  split at hf
  · cases hf
    cases hs with
    | cons h1 t =>
      cases t with
      | cons h2 t =>
        cases t
        cases h1.int; cases h2.int
        exact zl3 hc pins s σ H _ us Q I rv ⟨_, _, rfl, q _ H (.refl H) (.val (.int _))⟩
  · cases hf
theorem zqE (hc : X.calm = true) : CallR X (.builtin "max") (VR X.K (zaj .max2)) := by
  rintro pins s σ H xs us Q I rv ⟨W, ds, r, wf, hs, hf, q⟩
  replace hf : zqn ds = some r := hf
  unfold zqn at hf
  split at hf
  · cases hf
    cases hs with
    | cons h1 t =>
      cases t with
      | cons h2 t =>
        cases t
        cases h1.int; cases h2.int
        exact zl2 hc pins s σ H _ us Q I rv ⟨_, _, rfl, q _ H (.refl H) (.val (.int _))⟩
  · cases hf
theorem zg6 : CallR X (.type "tuple") (VR X.K (zaj .toTup)) := by
  rintro pins s σ H xs us Q I rv ⟨W, ds, r, wf, hs, hf, q⟩
  replace hf : zmi ds = some r := hf
  unfold zmi at hf
  split at hf
  · cases hf
    cases hs with
    | cons h1 t =>
      cases t
      obtain ⟨p, ys, rfl, hp, rp⟩ := h1.tupH
      exact zdx pins s σ H _ us Q I rv ⟨p, ys, rfl, .inr ⟨.of hp, q _ H (.refl H) (.val (.tup hp rp))⟩⟩
  · cases hf
    cases hs with
    | cons h1 t =>
      cases t
      obtain ⟨p, ys, rfl, hp, rp⟩ := h1.lst
      exact zdx pins s σ H _ us Q I rv ⟨p, ys, rfl, .inl ⟨hp, fun l hl => q _ _ (za1 hl _) (zmr hl rp)⟩⟩
  · cases hf
end
end L2.LW
set_option linter.all false
set_option maxHeartbeats 4000000
namespace L2.LW
open PySem PySem.Spec PyProof.Rows
structure IE (X : Cx) (fn : Nat → List D → Option SV) (e : Expr) (c : E) : Prop where
  h : PE X e (tE X.K fn c)
structure IA (X : Cx) (fn : Nat → List D → Option SV) (es : List Expr) (cs : Es) : Prop where
  h : PA X es (tVs X.K fn cs)
structure IT (X : Cx) (fn : Nat → List D → Option SV) (e : Expr) (c : E) : Prop where
  h : PT X e (tT X.K fn c)
structure IW (X : Cx) (fn : Nat → List D → Option SV) (e : Expr) (c : E) : Prop where
  h : PW X e (tT X.K fn c)
theorem Res.back {K : PySem.W.Frag} {W : Addr → Prop} {H H1 H2 : Hp} {r : SV} {v : V} (h : Res K W H1 H2 r v) (s : Same H H1) : Res K W H H2 r v := by
  cases h with
  | val h => exact .val h
  | new h e r => exact .new (s.free h) e r
  | see h e r => exact .see h e r
theorem R.wf' {K : PySem.W.Frag} {W : Addr → Prop} {ρ : LW.Env} {σ : St} {H H' : Hp} (r : R K W ρ σ H) (s : Same H H') : Wf W H' := (r.same s).wf
theorem zg7 {K : PySem.W.Frag} {W : Addr → Prop} {H : Hp} : ∀ {rs : List SV} {vs : List V}, Paired (Frz K W H) rs vs → Paired (Sees K W H) (rs.map seeD) vs
  | _, _, .nil => .nil
  | _, _, .cons h t => .cons h.sees (zg7 t)
theorem zg8 {K : PySem.W.Frag} {W : Addr → Prop} {H : Hp} : ∀ {rs : List SV} {vs : List V} {ds : List D}, Paired (Frz K W H) rs vs → toDs rs = some ds → Reps K W H ds vs
  | _, _, _, .nil, e => by simp [toDs] at e; subst e; exact .nil
  | _, _, _, .cons h t, e => by
    simp only [toDs, jo1, jo2] at e
    obtain ⟨d, e1, ds, e2, rfl⟩ := e
    exact .cons (h.toD e1) (zg8 t e2)
section
variable {es : List Expr} {env : PySem.Env}
theorem zab {a b} : starEach (.Name a b :: es) env = (false, eval (.Name a b) env) :: starEach es env := rfl
theorem zac {a b c} : starEach (.Constant a b c :: es) env = (false, eval (.Constant a b c) env) :: starEach es env := rfl
theorem zaq {a b c d} : starEach (.BinOp a b c d :: es) env = (false, eval (.BinOp a b c d) env) :: starEach es env := rfl
theorem zb7 {a b c} : starEach (.UnaryOp a b c :: es) env = (false, eval (.UnaryOp a b c) env) :: starEach es env := rfl
theorem zaD {a b c d} : starEach (.Call a b c d :: es) env = (false, eval (.Call a b c d) env) :: starEach es env := rfl
theorem zah {a b c} : starEach (.Subscript a b c :: es) env = (false, eval (.Subscript a b c) env) :: starEach es env := rfl
theorem zar {a b c} : starEach (.Tuple a b c :: es) env = (false, eval (.Tuple a b c) env) :: starEach es env := rfl
theorem zaE {a b c d} : starEach (.ListComp a b c d :: es) env = (false, eval (.ListComp a b c d) env) :: starEach es env := rfl
theorem zam {pos : Pos} : (backTo pos (starEach [] env)).any (·.1) = false := rfl
theorem zai {pos : Pos} {e : Expr} (h : starEach (e :: es) env = (false, eval e env) :: starEach es env) (t : (backTo pos (starEach es env)).any (·.1) = false) : (backTo pos (starEach (e :: es) env)).any (·.1) = false := by
  rw [h]; simpa [backTo] using t
theorem zqF {a b} : ∀ whole, isTrue (.Name a b) env whole = (do let v ← whole; standAt (Expr.Name a b).pos; holding [v] (truthy v)) := fun _ => rfl
theorem zcl {a b c d} : ∀ whole, isTrue (.Call a b c d) env whole = (do let v ← whole; standAt (Expr.Call a b c d).pos; holding [v] (truthy v)) := fun _ => rfl
end
section
variable {X : Cx} {fn : Nat → List D → Option SV} {a b c e : Expr} {ca cb cc ce : E} {es : List Expr} {cs : Es} {pos p : Pos} {x : Str}
theorem IE.v (h : IE X fn e ce) : PE X e (tV X.K fn ce) := h.h.imp fun σ H Q ⟨W, ρ, r, hR, he, q⟩ => ⟨W, ρ, r, hR, he, fun v H' s x => q v H' s (x.frz hR.wf)⟩
theorem zak {i : Int} {j : Nat} : IE X fn (.Constant (.int i) j pos) (.int i) := .mk <| zrQ.imp fun σ H Q zz3 => by
  obtain ⟨W, ρ, r, hR, he, q⟩ := zz3
  simp only [zpv] at he; cases he; exact q _ H (.refl H) (.val (.int i))
theorem i_bl {i : Bool} {j : Nat} : IE X fn (.Constant (.bool i) j pos) (.bl i) := .mk <| zvG.imp fun σ H Q zz3 => by
  obtain ⟨W, ρ, r, hR, he, q⟩ := zz3
  simp only [zwb] at he; cases he; exact q _ H (.refl H) (.val (.bl i))
theorem zol {j : Nat} : IE X fn (.Constant .none j pos) .non := .mk <| zrR.imp fun σ H Q zz3 => by
  obtain ⟨W, ρ, r, hR, he, q⟩ := zz3
  simp only [zsr] at he; cases he; exact q _ H (.refl H) (.val .non)
theorem zaf (i : Nat) (hN : X.N[i]? = some x) (hv : Vis X.env.scope x) (hd : (x == ("__debug__" : Str)) = false := by decide) (hcd : (x == ("__classdict__" : Str)) = false := by decide) : IE X fn (.Name x pos) (.var i) :=
  .mk <| (zdv hN hv hd hcd).imp fun σ H Q zz3 => by
    obtain ⟨W, ρ, r, hR, he, q⟩ := zz3
    simp only [zss] at he
    obtain ⟨v, h1, _, h3⟩ := hR.look he
    exact ⟨v, h1, q v H (.refl H) h3⟩
theorem zef {i : Int} {t : Tok} (hg : Gl X x) (hm : X.mg x = some (.int i t)) (hd : (x == ("__debug__" : Str)) = false := by decide) : IE X fn (.Name x pos) (.int i) :=
  .mk <| (zp2 hg hm (v := .int i) ⟨t, rfl⟩ hd).imp fun σ H Q zz3 => by
    obtain ⟨W, ρ, r, hR, he, q⟩ := zz3
    simp only [zpv] at he; cases he; exact q _ H (.refl H) (.val (.int i))
theorem zal : IA X fn [] .nil := .mk <| zgt.imp fun σ H Q zz3 => by
  obtain ⟨W, ρ, rs, hR, he, q⟩ := zz3
  simp only [zbA] at he; cases he; exact q _ H (.refl H) .nil
theorem zad (ha : IE X fn e ce) (hr : IA X fn es cs) (hs : starEach (e :: es) X.env = (false, eval e X.env) :: starEach es X.env := by rfl) : IA X fn (e :: es) (.cons ce cs) :=
  .mk <| (zcB ha.v hr.h hs).imp fun σ H Q zz3 => by
    obtain ⟨W, ρ, rs, hR, he, q⟩ := zz3
    simp only [zbh, jo1, jo2] at he
    obtain ⟨r, e1, rs', e2, rfl⟩ := he
    exact ⟨W, ρ, r, hR, e1, fun v H1 s1 f1 => ⟨W, ρ, rs', hR.same s1, e2, fun vs H2 s2 f2 => q _ H2 (s1.trans s2) (.cons (f1.same s2) f2)⟩⟩
theorem zfb {K : PySem.W.Frag} {p : Prim} {W : Addr → Prop} {ρ : LW.Env} {σ : St} {H H1 : Hp} {Q : VK} {rs : List SV} {vs : List V} {r : SV} (hR : R K W ρ σ H) (s1 : Same H H1) (f : Paired (Frz K W H1) rs vs)
    (e : zaj p (rs.map seeD) = some r) (q : ∀ v H', Same H H' → Res K W H H' r v → Q v H') : VR K (zaj p) vs H1 Q :=
  ⟨W, rs.map seeD, r, hR.wf' s1, zg7 f, e, fun v H' s2 h => q v H' (s1.trans s2) (h.back s1)⟩
theorem zkq {K : PySem.W.Frag} {p : Prim} {ρ : LW.Env} {σ : St} {H : Hp} {Q : VK} {W : Addr → Prop} {r : SV} (hR : R K W ρ σ H) (he : evE fn (.prim p (.cons ca (.cons cb .nil))) ρ = some r) (q : ∀ v H', Same H H' → Res K W H H' r v → Q v H') :
    tOp (VR2 K (zaj p)) (tV K fn ca) (tV K fn cb) σ H Q := by
  simp only [zbW, zbA, zbh, jo1, jo2] at he
  obtain ⟨rs, ⟨r1, e1, rs', ⟨r2, e2, rs'', e3, rfl⟩, rfl⟩, e4⟩ := he
  cases e3
  exact ⟨W, ρ, r1, hR, e1, fun v1 H1 s1 f1 => ⟨W, ρ, r2, hR.same s1, e2, fun v2 H2 s2 f2 => zfb hR (s1.trans s2) (.cons (f1.same s2) (.cons f2 .nil)) e4 q⟩⟩
theorem i_op {op : Operator} {pr : Prim} (ho : OpR X (binaryOp op) (VR2 X.K (zaj pr))) (ha : IE X fn a ca) (hb : IE X fn b cb) : IE X fn (.BinOp a op b pos) (.prim pr (.cons ca (.cons cb .nil))) :=
  .mk <| (zvR ho ha.v hb.v).imp fun σ H Q ⟨W, ρ, r, hR, he, q⟩ => zkq hR he q
theorem i_un {op : UnaryOp} {pr : Prim} (ho : UnR X (unaryOp op) (VR1 X.K (zaj pr))) (ha : IE X fn a ca) : IE X fn (.UnaryOp op a pos) (.prim pr (.cons ca .nil)) :=
  .mk <| (zvS ho ha.v).imp fun σ H Q zz3 => by
    obtain ⟨W, ρ, r, hR, he, q⟩ := zz3
    simp only [zbW, zbA, zbh, jo1, jo2] at he
    obtain ⟨rs, ⟨r1, e1, rs', e3, rfl⟩, e4⟩ := he
    cases e3
    exact ⟨W, ρ, r1, hR, e1, fun v1 H1 s1 f1 => zfb hR s1 (.cons f1 .nil) e4 q⟩
theorem zjt {op : CmpOp} {pr : Prim} (ho : OpR X (compareOp op) (VR2 X.K (zaj pr))) (ha : IE X fn a ca) (hb : IE X fn b cb) (hm : behindInMarks op b = false) : IE X fn (.Compare a [op] [b] pos) (.prim pr (.cons ca (.cons cb .nil))) :=
  .mk <| (zqa ho ha.v hb.v hm).imp fun σ H Q ⟨W, ρ, r, hR, he, q⟩ => zkq hR he q
theorem i_ix (hu : X.A.units + 64 < cLine) (ha : IE X fn a ca) (hb : IE X fn b cb) (hs : zma b) : IE X fn (.Subscript a b pos) (.prim .idx (.cons ca (.cons cb .nil))) :=
  .mk <| (zv0 (zsF hu) ha.v hb.v hs).imp fun σ H Q ⟨W, ρ, r, hR, he, q⟩ => zkq hR he q
theorem zmy {K : PySem.W.Frag} {pr : Prim} {ρ : LW.Env} {σ : St} {H : Hp} {Q : VK} {W : Addr → Prop} {r : SV} (hR : R K W ρ σ H) (he : evE fn (.prim pr cs) ρ = some r) (q : ∀ v H', Same H H' → Res K W H H' r v → Q v H') :
    tCB (VR K (zaj pr)) (tVs K fn cs) σ H Q := by
  simp only [zbW, jo1] at he
  obtain ⟨rs, e1, e2⟩ := he
  exact ⟨W, ρ, rs, hR, e1, fun vs H1 s1 f => zfb hR s1 f e2 q⟩
theorem zbg {id : String} {pr : Prim} (hc : CallR X (.builtin id) (VR X.K (zaj pr))) (hg : Gl X x) (hm : X.mg x = none) (hv : bootBuiltins x = some (.builtin id)) (ha : IA X fn (e :: es) cs) (hn : x ≠ "__name__" := by decide) (hdb : (x == ("__debug__" : Str)) = false := by decide)
    (he : starEach (e :: es) X.env = (false, eval e X.env) :: starEach es X.env := by rfl) (hpl : (backTo pos (starEach es X.env)).any (·.1) = false := by rfl) : IE X fn (.Call (.Name x p) (e :: es) [] pos) (.prim pr cs) :=
  .mk <| (zgZ hc hg hm hv ha.h hn hdb he hpl).imp fun σ H Q ⟨W, ρ, r, hR, h, q⟩ => zmy hR h q
theorem zg9 {T : String} {pr : Prim} (hc : CallR X (.type T) (VR X.K (zaj pr))) (hg : Gl X x) (hm : X.mg x = none) (hv : bootBuiltins x = some (.type T)) (ha : IA X fn (e :: es) cs) (hn : x ≠ "__name__" := by decide) (hdb : (x == ("__debug__" : Str)) = false := by decide)
    (he : starEach (e :: es) X.env = (false, eval e X.env) :: starEach es X.env := by rfl) (hpl : (backTo pos (starEach es X.env)).any (·.1) = false := by rfl) : IE X fn (.Call (.Name x p) (e :: es) [] pos) (.prim pr cs) :=
  .mk <| (zl8 hc hg hm hv ha.h hn hdb he hpl).imp fun σ H Q ⟨W, ρ, r, hR, h, q⟩ => zmy hR h q
theorem zha {K : PySem.W.Frag} {W : Addr → Prop} {H : Hp} : ∀ {rs : List SV} {ds : List D}, toDs rs = some ds → ds.length = rs.length
  | [], _, e => by simp [toDs] at e; subst e; rfl
  | r :: rs, _, e => by
    simp only [toDs, jo1, jo2] at e
    obtain ⟨d, e1, ds, e2, rfl⟩ := e
    simp [zha (K := K) (W := W) (H := H) e2]
noncomputable def zmz : Es → Nat
  | .nil => 0
  | .cons _ r => zmz r + 1
theorem zhb : ∀ {cs : Es} {ρ : LW.Env} {rs : List SV}, evEs fn cs ρ = some rs → rs.length = zmz cs
  | .nil, _, _, e => by simp only [zbA] at e; cases e; rfl
  | .cons c cs, _, _, e => by
    simp only [zbh, jo1, jo2] at e
    obtain ⟨r, e1, rs', e2, rfl⟩ := e
    simp [zmz, zhb e2]
theorem zbi {k : Nat} (h : IA X fn es cs) (hl : zmz cs ≤ 1000 := by decide) : IE X fn (.Tuple es k pos) (.tup cs) :=
  .mk <| (zr7 h.h).imp fun σ H Q zz3 => by
    obtain ⟨W, ρ, r, hR, he, q⟩ := zz3
    simp only [zst, jo1, jo2] at he
    obtain ⟨rs, e1, ds, e2, rfl⟩ := he
    refine ⟨W, ρ, rs, hR, e1, fun vs H1 s1 f => ?_⟩
    have r1 := zg8 f e2
    have l1 := r1.length
    have l2 := zha (K := X.K) (W := W) (H := H) e2
    have l3 := zhb e1
    exact ⟨Nat.le_of_lt (zcC (by omega)), fun p hp => q _ _ (s1.trans (za1 hp _)) ((zmr hp r1).back s1)⟩
theorem zeg (h : IA X fn es cs) (hl : zmz cs ≤ 1000 := by decide) : IE X fn (.List es pos) (.lst cs) :=
  .mk <| (zr8 h.h).imp fun σ H Q zz3 => by
    obtain ⟨W, ρ, r, hR, he, q⟩ := zz3
    simp only [zsu, jo1, jo2] at he
    obtain ⟨rs, e1, ds, e2, rfl⟩ := he
    refine ⟨W, ρ, rs, hR, e1, fun vs H1 s1 f => ?_⟩
    have r1 := zg8 f e2
    have l1 := r1.length
    have l2 := zha (K := X.K) (W := W) (H := H) e2
    have l3 := zhb e1
    exact ⟨Nat.le_of_lt (zcC (by omega)), fun p hp => q _ _ (s1.trans (za1 hp _)) ((zed hp r1).back s1)⟩
theorem zju {op : BoolOp} (h : IE X fn a ca) : IE X fn (.BoolOp op [a] pos) ca := .mk (zrV h.h)
theorem zjv {rest : List Expr} (ha : IE X fn a ca) (hb : IE X fn (.BoolOp .And (b :: rest) pos) cb) : IE X fn (.BoolOp .And (a :: b :: rest) pos) (.and ca cb) :=
  .mk <| (zrW ha.h hb.h).imp fun σ H Q zz3 => by
    obtain ⟨W, ρ, r, hR, he, q⟩ := zz3
    simp only [zsv, jo1] at he
    obtain ⟨r1, e1, e2⟩ := he
    refine ⟨W, ρ, r1, hR, e1, fun v H1 s1 f => ?_⟩
    split at e2
    · cases f with
      | val h =>
        cases h
        exact ⟨true, rfl, by rw [if_pos rfl]; exact ⟨W, ρ, r, hR.same s1, e2, fun v H2 s2 h => q v H2 (s1.trans s2) (h.back s1)⟩⟩
    · cases f with
      | val h =>
        cases h; cases e2
        exact ⟨false, rfl, by rw [if_neg Bool.false_ne_true]; exact q _ H1 s1 (.val (.bl false))⟩
    · cases e2
theorem i_or {rest : List Expr} (ha : IE X fn a ca) (hb : IE X fn (.BoolOp .Or (b :: rest) pos) cb) : IE X fn (.BoolOp .Or (a :: b :: rest) pos) (.or ca cb) :=
  .mk <| (zvK ha.h hb.h).imp fun σ H Q zz3 => by
    obtain ⟨W, ρ, r, hR, he, q⟩ := zz3
    simp only [zwc, jo1] at he
    obtain ⟨r1, e1, e2⟩ := he
    refine ⟨W, ρ, r1, hR, e1, fun v H1 s1 f => ?_⟩
    split at e2
    · cases f with
      | val h =>
        cases h; cases e2
        exact ⟨true, rfl, by rw [if_pos rfl]; exact q _ H1 s1 (.val (.bl true))⟩
    · cases f with
      | val h =>
        cases h
        exact ⟨false, rfl, by rw [if_neg Bool.false_ne_true]; exact ⟨W, ρ, r, hR.same s1, e2, fun v H2 s2 h => q v H2 (s1.trans s2) (h.back s1)⟩⟩
    · cases e2
theorem zwh (hc : IT X fn c cc) (ha : IE X fn a ca) (hb : IE X fn b cb) : IE X fn (.IfExp c a b pos) (.ite cc ca cb) :=
  .mk <| (znW hc.h ha.h hb.h).imp fun σ H Q zz3 => by
    obtain ⟨W, ρ, r, hR, he, q⟩ := zz3
    simp only [zsw, jo1] at he
    obtain ⟨k, e1, e2⟩ := he
    refine ⟨W, ρ, k, hR, e1, fun H1 s1 => ?_⟩
    cases k with
    | true => rw [if_pos rfl] at e2 ⊢; exact ⟨W, ρ, r, hR.same s1, e2, fun v H2 s2 h => q v H2 (s1.trans s2) (h.back s1)⟩
    | false => rw [if_neg Bool.false_ne_true] at e2 ⊢; exact ⟨W, ρ, r, hR.same s1, e2, fun v H2 s2 h => q v H2 (s1.trans s2) (h.back s1)⟩
theorem zqG {op op' : CmpOp} {p q : Prim} (ho : OpR X (compareOp op) (VR2 X.K (zaj p))) (ho' : OpR X (compareOp op') (VR2 X.K (zaj q))) (ha : IE X fn a ca) (hb : IE X fn b cb) (hc : IE X fn c cc)
    (hm : lastMarks [op, op'] [b, c] = false := by with_unfolding_all rfl) : IE X fn (.Compare a [op, op'] [b, c] pos) (.chain p q ca cb cc) :=
  .mk <| (zn0 ho ho' ha.v hb.v hc.v hm).imp fun σ H Q zz3 => by
    obtain ⟨W, ρ, r, hR, he, hq⟩ := zz3
    simp only [zoh, jo1] at he
    obtain ⟨r1, e1, r2, e2, z, e3, e4⟩ := he
    refine ⟨W, ρ, r1, hR, e1, fun v1 H1 s1 f1 => ⟨W, ρ, r2, hR.same s1, e2, fun v2 H2 s2 f2 => ?_⟩⟩
    refine ⟨W, _, z, hR.wf' (s1.trans s2), .cons (f1.same s2).sees (.cons f2.sees .nil), e3, fun v H3 s3 h3 => ?_⟩
    split at e4
    · cases h3 with
      | val h3 =>
        cases h3
        simp only [jo1] at e4
        obtain ⟨r3, e5, e6⟩ := e4
        refine ⟨true, rfl, ?_⟩
        rw [if_pos rfl]
        have s13 := (s1.trans s2).trans s3
        refine ⟨W, ρ, r3, hR.same s13, e5, fun v4 H4 s4 f4 => ?_⟩
        exact ⟨W, _, r, hR.wf' (s13.trans s4), .cons ((f2.same s3).same s4).sees (.cons f4.sees .nil), e6, fun v5 H5 s5 h5 => hq v5 H5 (s13.trans (s4.trans s5)) (h5.back (s13.trans s4))⟩
    · cases h3 with
      | val h3 =>
        cases h3; cases e4
        exact ⟨false, rfl, by rw [if_neg Bool.false_ne_true]; exact hq _ H3 ((s1.trans s2).trans s3) (.val (.bl false))⟩
    · cases e4
theorem IW.t (h : IW X fn e ce) : IT X fn e ce := .mk (PW.pt h.h)
theorem zmA (h : IT X fn a ca) : IW X fn (.BoolOp .And [a] pos) ca := .mk (zp4 h.h)
theorem zlk (h : IT X fn a ca) : IW X fn (.BoolOp .Or [a] pos) ca := .mk (zrS h.h)
theorem zom {rest : List Expr} (ha : IT X fn a ca) (hb : IW X fn (.BoolOp .And (b :: rest) pos) cb) : IW X fn (.BoolOp .And (a :: b :: rest) pos) (.and ca cb) :=
  .mk <| (zrT ha.h hb.h).imp fun σ H Q zz3 => by
    obtain ⟨W, ρ, k, hR, he, q⟩ := zz3
    simp only [zsx, jo1] at he
    obtain ⟨k1, e1, e2⟩ := he
    refine ⟨W, ρ, k1, hR, e1, fun H1 s1 => ?_⟩
    cases k1 with
    | true => rw [if_pos rfl] at e2 ⊢; exact ⟨W, ρ, k, hR.same s1, e2, fun H2 s2 => q H2 (s1.trans s2)⟩
    | false => rw [if_neg Bool.false_ne_true] at e2 ⊢; cases e2; exact q H1 s1
theorem t_or {rest : List Expr} (ha : IT X fn a ca) (hb : IW X fn (.BoolOp .Or (b :: rest) pos) cb) : IW X fn (.BoolOp .Or (a :: b :: rest) pos) (.or ca cb) :=
  .mk <| (zvI ha.h hb.h).imp fun σ H Q zz3 => by
    obtain ⟨W, ρ, k, hR, he, q⟩ := zz3
    simp only [zwd, jo1] at he
    obtain ⟨k1, e1, e2⟩ := he
    refine ⟨W, ρ, k1, hR, e1, fun H1 s1 => ?_⟩
    cases k1 with
    | true => rw [if_pos rfl] at e2 ⊢; cases e2; exact q H1 s1
    | false => rw [if_neg Bool.false_ne_true] at e2 ⊢; exact ⟨W, ρ, k, hR.same s1, e2, fun H2 s2 => q H2 (s1.trans s2)⟩
theorem zhc (ha : IT X fn a ca) : IT X fn (.UnaryOp .Not a pos) (.not ca) :=
  .mk <| (zrU ha.h).imp fun σ H Q zz3 => by
    obtain ⟨W, ρ, k, hR, he, q⟩ := zz3
    simp only [zsy, jo2] at he
    obtain ⟨k1, e1, rfl⟩ := he
    exact ⟨W, ρ, k1, hR, e1, fun H1 s1 => q H1 s1⟩
noncomputable def zhd : Prim → Bool
  | .eq => true | .ne => true | .lt => true | .le => true | .gt => true | .ge => true | .inn => true | .nin => true | .isN => true | .notN => true | .eqS => true | .neS => true
  | _ => false
theorem zjw {b : Bool} {r : SV} (h : okBl b = some r) : r = .val (.bl b) := by cases h; rfl
theorem zgy {p : Prim} (hp : zhd p = true) {ds : List D} {r : SV} (h : zaj p ds = some r) : ∃ b, r = .val (.bl b) := by
  cases p <;> first | cases hp | skip
  all_goals
    simp only [zaj] at h
    first | unfold pEqS at h | unfold pNeS at h | unfold pEq at h | unfold pNe at h | unfold pLt at h | unfold pLe at h | unfold pGt at h | unfold pGe at h | unfold pIn at h | unfold pNin at h | unfold pIsN at h | unfold zsl at h
    split at h
    all_goals first
      | exact ⟨_, zjw h⟩
      | cases h
      | (split at h <;> first | exact ⟨_, zjw h⟩ | cases h)
      | (simp only [jo1] at h; obtain ⟨_, _, _, _, h⟩ := h; exact ⟨_, zjw h⟩)
theorem zcg {op : CmpOp} {pr : Prim} (hp : zhd pr = true) (ho : OpR X (compareOp op) (VR2 X.K (zaj pr))) (ha : IE X fn a ca) (hb : IE X fn b cb) (hm : behindInMarks op b = false) : IT X fn (.Compare a [op] [b] pos) (.prim pr (.cons ca (.cons cb .nil))) :=
  .mk <| (zqb ho ha.v hb.v hm).imp fun σ H Q zz3 => by
    obtain ⟨W, ρ, k, hR, he, q⟩ := zz3
    have he' : (evE fn (.prim pr (.cons ca (.cons cb .nil))) ρ).bind zbI = some k := by
      rw [zg4] at he
      rw [zbW]
      simp only [jo1] at he ⊢
      obtain ⟨rs, e1, r, e2, e3⟩ := he
      exact ⟨r, ⟨rs, e1, e2⟩, e3⟩
    rw [jo1] at he'
    obtain ⟨r, e1, e2⟩ := he'
    have e1' := e1
    rw [zbW] at e1'
    simp only [jo1] at e1'
    obtain ⟨rs, _, e3⟩ := e1'
    obtain ⟨b, rfl⟩ := zgy hp e3
    simp only [zbI] at e2
    cases e2
    exact zkq hR e1 fun v H' s h => by
      cases h with
      | val h => cases h; exact ⟨_, rfl, q H' s⟩
theorem zqH {op op' : CmpOp} {p q : Prim} (hp : zhd p = true) (hq' : zhd q = true) (ho : OpR X (compareOp op) (VR2 X.K (zaj p))) (ho' : OpR X (compareOp op') (VR2 X.K (zaj q))) (ha : IE X fn a ca) (hb : IE X fn b cb) (hc : IE X fn c cc)
    (hm : lastMarks [op, op'] [b, c] = false := by with_unfolding_all rfl) : IT X fn (.Compare a [op, op'] [b, c] pos) (.chain p q ca cb cc) :=
  .mk <| (zn1 ho ho' ha.v hb.v hc.v hm).imp fun σ H Q zz3 => by
    obtain ⟨W, ρ, k, hR, he, hq⟩ := zz3
    simp only [zoi, jo1] at he
    obtain ⟨r1, e1, r2, e2, z, e3, e4⟩ := he
    refine ⟨W, ρ, r1, hR, e1, fun v1 H1 s1 f1 => ⟨W, ρ, r2, hR.same s1, e2, fun v2 H2 s2 f2 => ?_⟩⟩
    refine ⟨W, _, z, hR.wf' (s1.trans s2), .cons (f1.same s2).sees (.cons f2.sees .nil), e3, fun v H3 s3 h3 => ?_⟩
    split at e4
    · cases h3 with
      | val h3 =>
        cases h3
        simp only [jo1] at e4
        obtain ⟨r3, e5, r4, e6, e7⟩ := e4
        refine ⟨true, rfl, ?_⟩
        rw [if_pos rfl]
        have s13 := (s1.trans s2).trans s3
        refine ⟨W, ρ, r3, hR.same s13, e5, fun v4 H4 s4 f4 => ?_⟩
        refine ⟨W, _, r4, hR.wf' (s13.trans s4), .cons ((f2.same s3).same s4).sees (.cons f4.sees .nil), e6, fun v5 H5 s5 h5 => ?_⟩
        obtain ⟨b5, rfl⟩ := zgy hq' e6
        simp only [zbI] at e7
        cases e7
        cases h5 with
        | val h5 => cases h5; exact ⟨_, rfl, hq H5 (s13.trans (s4.trans s5))⟩
    · cases h3 with
      | val h3 =>
        cases h3; cases e4
        exact ⟨false, rfl, by rw [if_neg Bool.false_ne_true]; exact ⟨false, rfl, hq H3 ((s1.trans s2).trans s3)⟩⟩
    · cases e4
theorem zqI {K : PySem.W.Frag} {W : Addr → Prop} {H : Hp} {r : SV} {v : V} {k : Bool} (f : Frz K W H r v) (h : zbI r = some k) : TruV K v H k := by
  unfold zbI at h
  split at h
  · cases h; cases f with | val f => cases f; rfl
  · cases h; cases f with | val f => cases f; rfl
  · cases h; cases f with | val f => cases f; rfl
  · rename_i l
    cases h
    obtain ⟨a, xs, rfl, hq, rp⟩ := Frz.sees f |>.tup
    refine .inr (.inl ⟨xs, hq, ?_⟩)
    cases rp <;> rfl
  · cases h
    obtain ⟨a, xs, rfl, hq, rp⟩ := Frz.sees f |>.lst
    refine .inl ⟨xs, hq, ?_⟩
    cases rp <;> rfl
  · cases h
    obtain ⟨a, xs, rfl, hq, rp⟩ := Frz.sees f |>.lst
    refine .inl ⟨xs, hq, ?_⟩
    cases rp <;> rfl
  · cases h
theorem zf8 (hE : IE X fn e ce) (hev : ∀ ρ, evT fn ce ρ = (evE fn ce ρ).bind zbI) (he : ∀ whole, isTrue e X.env whole = (do let v ← whole; standAt e.pos; holding [v] (truthy v)) := by intro _; rfl) : IT X fn e ce :=
  .mk <| (zn2 hE.v he).imp fun σ H Q zz3 => by
    obtain ⟨W, ρ, k, hR, ht, q⟩ := zz3
    rw [hev, jo1] at ht
    obtain ⟨r, e1, e2⟩ := ht
    exact ⟨W, ρ, r, hR, e1, fun v H1 s1 f => ⟨k, zqI f e2, q H1 s1⟩⟩
theorem zsG (i : Nat) : ∀ ρ, evT fn (.var i) ρ = (evE fn (.var i) ρ).bind zbI := fun ρ => id rfl
theorem zjx (p : Prim) (cs : Es) : ∀ ρ, evT fn (.prim p cs) ρ = (evE fn (.prim p cs) ρ).bind zbI := fun ρ => by rw [zg4, zbW, Option.bind_assoc]
theorem zeh (f : Nat) (cs : Es) : ∀ ρ, evT fn (.call f cs) ρ = (evE fn (.call f cs) ρ).bind zbI := fun ρ => by rw [zqs, zmm, Option.bind_assoc]
end
end L2.LW
set_option linter.all false
set_option maxHeartbeats 4000000
namespace L2.LW
open PySem PySem.Spec PyProof.Rows
noncomputable def spI (K : PySem.W.Frag) (fn : Nat → List D → Option SV) (i : Nat) : Sp := fun vs H Q _ => ∃ W ds r, Wf W H ∧ Reps K W H ds vs ∧ fn i ds = some r ∧ ∀ v H', Same H H' → Res K W H H' r v → Q v H'
structure ARep (K : PySem.W.Frag) (W : Addr → Prop) (H : Hp) (io : List Nat) (ds : List D) (vs : List V) : Prop where
  len : ds.length = vs.length
  val : ∀ (k : Nat) (d : D), ds[k]? = some d → k ∉ io → ∃ v, vs[k]? = some v ∧ Rep K W H d v
  obj : ∀ (k : Nat) (d : D), ds[k]? = some d → k ∈ io → ∃ a o, vs[k]? = some (.ref a) ∧ W a ∧ H a = some o ∧ ORep K W H d o
  inj : ∀ (j k : Nat) (a : Addr), j ∈ io → k ∈ io → vs[j]? = some (.ref a) → vs[k]? = some (.ref a) → j = k
noncomputable def ioV (io : List Nat) (vs : List V) (a : Addr) : Prop := ∃ k ∈ io, vs[k]? = some (.ref a)
noncomputable def Outs (K : PySem.W.Frag) (W : Addr → Prop) (H : Hp) (io : List Nat) (vs : List V) (outs : List D) : Prop :=
  Paired (fun k d => ∃ a o, vs[k]? = some (.ref a) ∧ H a = some o ∧ ORep K W H d o) io outs
noncomputable def spA (K : PySem.W.Frag) (fa : Nat → List D → Option Ans) (i : Nat) (io : List Nat) : Sp := fun vs H Q _ => ∃ W ds r outs, Wf W H ∧ ARep K W H io ds vs ∧ fa i ds = some (.ok r outs) ∧
  ∀ v H', (∀ a o, H a = some o → ¬ ioV io vs a → H' a = some o) → Outs K W H' io vs outs → Res K W H H' r v → Q v H'
theorem Reps.get' {K : PySem.W.Frag} {W : Addr → Prop} {H : Hp} {ds : List D} {vs : List V} (r : Reps K W H ds vs) : ARep K W H [] ds vs :=
  ⟨r.length, fun k d h _ => r.get h, fun k d _ h => (by cases h), fun j k a h => (by cases h)⟩
theorem zkr {fa : Nat → List D → Option Ans} {i : Nat} {ds : List D} {r : SV} (h : prj fa i ds = some r) : fa i ds = some (.ok r []) := by
  unfold prj at h
  split at h
  · rename_i r' e; cases h; exact e
  · cases h
theorem zap {Pg : Program} {w : World} {K : PySem.W.Frag} {mg : Str → Option Value} {base : Heap} {k : Nat} {f : Addr} {fd : FuncData} {ps : List Str} {fa : Nat → List D → Option Ans} {i : Nat} {io : List Nat}
    (F : FnOk Pg w K mg base CX0 k f fd ps (spA K fa i io)) (h : io = []) : FnOk Pg w K mg base CX0 k f fd ps (spI K (prj fa) i) := by
  subst h
  exact F.imp fun vs H Q E ⟨W, ds, r, wf, rp, e, q⟩ => ⟨W, ds, r, [], wf, rp.get', zkr e, fun v H' k _ res => q v H' (fun a o h => k a o h fun ⟨_, z, _⟩ => by cases z) res⟩
theorem zks {K : PySem.W.Frag} {W : Addr → Prop} {H : Hp} : ∀ {rs : List SV} {vs : List V}, Paired (Frz K W H) rs vs → rs.any SV.lent = false → Reps K W H (rs.map seeD) vs
  | _, _, .nil, _ => .nil
  | _, _, .cons h t, e => by
    simp only [List.any_cons, Bool.or_eq_false_iff] at e
    refine .cons ?_ (zks t e.2)
    cases h with
    | val h => exact h
    | lis h e' r => exact r.rep h e'
    | see h e' r => simp [SV.lent] at e
theorem zmB {K : PySem.W.Frag} {W : Addr → Prop} {H : Hp} : ∀ {rs : List SV} {vs : List V}, Paired (Frz K W H) rs vs → Reps K (fun _ => False) H (rs.map seeD) vs
  | _, _, .nil => .nil
  | _, _, .cons h t => by
    refine .cons ?_ (zmB t)
    cases h with
    | val h => exact h.less fun _ z => z.elim
    | lis h e' r => exact (r.less fun _ z => z.elim).rep (fun z => z) e'
    | see h e' r => exact (r.less fun _ z => z.elim).rep (fun z => z) e'
theorem Res.plain {K : PySem.W.Frag} {W W' : Addr → Prop} {H H' : Hp} {r : SV} {v : V} (h : Res K W' H H' r v) (wf : ∀ a, W' a → W a) (p : r.plain = true) : Res K W H H' r v := by
  cases h with
  | val h => exact .val (h.plain p)
  | new h e r => exact .new h e (r.plain p)
  | see h e r => exact .see (wf _ h) e (r.plain p)
section
variable {X : Cx} {fn : Nat → List D → Option SV} {fuel : Nat} {a b c e : Expr} {ca cb cc ce : E} {es : List Expr} {cs : Es} {pos p : Pos} {x : Str}
theorem zax {k : Nat} {f : Addr} {fd : FuncData} {ps : List Str} {i : Nat} (F : FnOk X.prog X.w X.K X.mg X.base CX0 k f fd ps (spI X.K fn i)) (hr : Room k X.A) (hg : Gl X x) (hm : X.mg x = some (.ref f)) (hk : PySem.W.keepIn X.K (.ref f) = true)
    (hb : Binds X.K fd ps []) (ha : IA X fn (e :: es) cs) (hdb : (x == ("__debug__" : Str)) = false := by decide) (he : starEach (e :: es) X.env = (false, eval e X.env) :: starEach es X.env := by rfl)
    (hpl : (backTo pos (starEach es X.env)).any (·.1) = false := by rfl) : IE X fn (.Call (.Name x p) (e :: es) [] pos) (.call i cs) :=
  .mk <| (zl6 F hr hg hm hk hb .nil zsk ha.h hdb he hpl).imp fun σ H Q zz3 => by
    obtain ⟨W, ρ, r, hR, h, q⟩ := zz3
    simp only [zmm, jo1, zeb] at h
    obtain ⟨rs, e1, r', e2, e3⟩ := h
    split at e3
    · cases e3
    · rename_i hc
      cases e3
      refine ⟨W, ρ, rs, hR, e1, fun vs H1 s1 f => ?_⟩
      show spI X.K fn i (vs ++ []) H1 Q E0
      rw [List.append_nil]
      cases hl : rs.any SV.lent with
      | false => exact ⟨W, _, r, hR.wf' s1, zks f hl, e2, fun v H' s2 h => q v H' (s1.trans s2) (h.back s1)⟩
      | true =>
        have hp : r.plain = true := by
          cases hp : r.plain with
          | true => rfl
          | false => exact absurd (by rw [hl, hp]; rfl) hc
        exact ⟨fun _ => False, _, r, fun _ z => z.elim, zmB f, e2, fun v H' s2 h => q v H' (s1.trans s2) ((h.plain (fun _ z => z.elim) hp).back s1)⟩
section
variable {K : PySem.W.Frag} {W : Addr → Prop} {ρ : LW.Env} {σ : St} {H H' : Hp} {i j : Nat} {d : D} {v : V}
theorem zaT {α : Type} {l : List α} {i j : Nat} {x y : α} (h : (l.set i x)[j]? = some y) : (i = j ∧ y = x ∧ j < l.length) ∨ (i ≠ j ∧ l[j]? = some y) := by
  rw [List.getElem?_set] at h
  split at h
  · rename_i e
    subst e
    split at h
    · cases h; exact .inl ⟨rfl, rfl, by assumption⟩
    · cases h
  · exact .inr ⟨by assumption, h⟩
theorem zcH {α : Type} {l : List α} {i : Nat} {x : α} (h : i < l.length) : (l.set i x)[i]? = some x := by simp [h]
theorem zaC {α : Type} {l : List α} {i j : Nat} {x : α} (h : i ≠ j) : (l.set i x)[j]? = l[j]? := List.getElem?_set_ne h
theorem R.set_val (r : R K W ρ σ H) (h : Rep K W H d v) : R K W (ρ.set i (some (.val d))) (σ.set i (some v)) H := by
  refine ⟨fun j e hj => ?_, fun j e hj => ?_, fun j x e hj hc => ?_, fun j k x y e1 e2 a h1 h2 c1 c2 h3 h4 => ?_, r.wf, by simpa using r.len⟩
  · rcases zaT hj with ⟨rfl, z, hl⟩ | ⟨n, z⟩
    · cases z
      exact ⟨v, zcH (by rw [← r.len]; exact hl), h⟩
    · obtain ⟨u, h1, h2⟩ := r.val j e z
      exact ⟨u, by rw [zaC n]; exact h1, h2⟩
  · rcases zaT hj with ⟨rfl, z, hl⟩ | ⟨n, z⟩
    · cases z
    · exact r.nol j e z
  · rcases zaT hj with ⟨rfl, z, hl⟩ | ⟨n, z⟩
    · cases z; cases hc
    · obtain ⟨a, o, h1, h2⟩ := r.own j x e z hc
      exact ⟨a, o, by rw [zaC n]; exact h1, h2⟩
  · rcases zaT h1 with ⟨rfl, z, hl⟩ | ⟨n, z⟩
    · cases z; cases c1
    · rcases zaT h2 with ⟨rfl, z', hl⟩ | ⟨n', z'⟩
      · cases z'; cases c2
      · rw [zaC n] at h3
        rw [zaC n'] at h4
        exact r.inj j k x y e1 e2 a z z' c1 c2 h3 h4
theorem zjy {a : Addr} (h : Own (ρ.set i (some (.val d))) (σ.set i (some v)) a) : Own ρ σ a := by
  obtain ⟨j, x, e, h1, hc, h2⟩ := h
  rcases zaT h1 with ⟨rfl, z, hl⟩ | ⟨n, z⟩
  · cases z; cases hc
  · rw [zaC n] at h2
    exact ⟨j, x, e, z, hc, h2⟩
theorem zid {x : SV} (hx : ∀ d, x ≠ .io d) (hf : ¬ isIo ρ i) (j : Nat) : (isIo (ρ.set i (some x)) j ↔ isIo ρ j) ∧ (isIo ρ j → i ≠ j) := by
  refine ⟨⟨fun ⟨d, h⟩ => ?_, fun ⟨d, h⟩ => ?_⟩, fun h e => hf (by rw [e]; exact h)⟩
  · rcases zaT h with ⟨rfl, z, hl⟩ | ⟨n, z⟩
    · cases z; exact absurd rfl (hx d)
    · exact ⟨d, z⟩
  · exact ⟨d, by rw [zaC (fun e => hf (by rw [e]; exact ⟨d, h⟩))]; exact h⟩
theorem za4 (r : R K W ρ σ H) (s : Same H H') (h : Rep K W H' d v) (hf : ¬ isIo ρ i) : SPost K W ρ σ H W (ρ.set i (some (.val d))) (σ.set i (some v)) H' :=
  ⟨(r.same s).set_val h, fun a o q _ => s a o q, fun a w => .inl w, fun a w n => ⟨w, fun z => n (zjy z)⟩, fun j => ⟨(zid (x := .val d) (fun _ z => (nomatch z)) hf j).1, fun z => zaC ((zid (x := .val d) (fun _ z => (nomatch z)) hf j).2 z)⟩⟩
theorem zsH {a : Addr} (wf : Wf W H) (s : Same H H') {o : HO} (e : H' a = some o) : Wf (add W a) H' := fun b w => by
  rcases w with w | rfl
  · cases q : H b with
    | none => exact absurd q (wf b w)
    | some u => rw [s b u q]; exact fun z => nomatch z
  · rw [e]; exact fun z => nomatch z
theorem zhe {a : Addr} (s : Same H H') (h : H a = Option.none) : Ext W H (add W a) H' :=
  ⟨fun b o q _ => s b o q, fun b xs q => s b _ q, fun b o u q => s b _ q, fun b w => by
    rcases w with w | rfl
    · exact .inl w
    · exact .inr h⟩
theorem R.add {a : Addr} {o : HO} (r : R K W ρ σ H) (s : Same H H') (h : H a = Option.none) (e : H' a = some o) : R K (LW.add W a) ρ σ H' := by
  refine ⟨fun j d hj => ?_, r.nol, fun j x d hj hc => ?_, r.inj, zsH r.wf s e, r.len⟩
  · obtain ⟨u, h1, h2⟩ := r.val j d hj
    exact ⟨u, h1, h2.ext (zhe s h)⟩
  · obtain ⟨b, o, h1, h2, h3, h4⟩ := r.own j x d hj hc
    exact ⟨b, o, h1, .inl h2, s _ _ h3, h4.ext (zhe s h)⟩
theorem R.noOwn {a : Addr} (r : R K W ρ σ H) (h : H a = Option.none) : ¬ Own ρ σ a := fun z => by
  obtain ⟨_, o, d, e, _⟩ := r.ownW z
  rw [h] at e; cases e
theorem zie {a : Addr} {o : HO} (r : R K W ρ σ H) (s : Same H H') (h : H a = Option.none) (e : H' a = some o) (rp : ORep K (LW.add W a) H' d o) (hf : ¬ isIo ρ i) :
    SPost K W ρ σ H (LW.add W a) (ρ.set i (some (.obj true d))) (σ.set i (some (.ref a))) H' := by
  have ra := r.add s h e
  refine ⟨⟨fun j d hj => ?_, fun j d hj => ?_, fun j x es hj hc => ?_, fun j k x y e1 e2 b h1 h2 c1 c2 h3 h4 => ?_, ra.wf, by simpa using r.len⟩, fun b o q _ => s b o q, (zhe (W := W) s h).win, fun b w n => ⟨.inl w, fun z => ?_⟩,
    fun j => ⟨(zid (x := .obj true d) (fun _ z => (nomatch z)) hf j).1, fun z => zaC ((zid (x := .obj true d) (fun _ z => (nomatch z)) hf j).2 z)⟩⟩
  · rcases zaT hj with ⟨rfl, z, hl⟩ | ⟨n, z⟩
    · cases z
    · obtain ⟨u, h1, h2⟩ := ra.val j d z
      exact ⟨u, by rw [zaC n]; exact h1, h2⟩
  · rcases zaT hj with ⟨rfl, z, hl⟩ | ⟨n, z⟩
    · cases z
    · exact r.nol j d z
  · rcases zaT hj with ⟨rfl, z, hl⟩ | ⟨n, z⟩
    · cases z; cases hc
      exact ⟨a, o, zcH (by rw [← r.len]; exact hl), .inr rfl, e, rp⟩
    · obtain ⟨b, ys, h1, h2⟩ := ra.own j x es z hc
      exact ⟨b, ys, by rw [zaC n]; exact h1, h2⟩
  · have other : ∀ {k : Nat} {x : SV} {e : D}, ρ[k]? = some (some x) → x.cell = some e → σ[k]? = some (some (.ref a)) → False := fun {k x e} q1 q3 q2 => r.noOwn h ⟨k, x, e, q1, q3, q2⟩
    rcases zaT h1 with ⟨rfl, z, hl⟩ | ⟨n, z⟩
    · rcases zaT h2 with ⟨rfl, _, _⟩ | ⟨n', z'⟩
      · rfl
      · rw [zcH (by rw [← r.len]; exact hl)] at h3
        cases h3
        rw [zaC n'] at h4
        exact (other z' c2 h4).elim
    · rcases zaT h2 with ⟨rfl, z', hl⟩ | ⟨n', z'⟩
      · rw [zcH (by rw [← r.len]; exact hl)] at h4
        cases h4
        rw [zaC n] at h3
        exact (other z c1 h3).elim
      · rw [zaC n] at h3
        rw [zaC n'] at h4
        exact r.inj j k x y e1 e2 b z z' c1 c2 h3 h4
  · obtain ⟨j, x, es, h1, hc, h2⟩ := z
    rcases zaT h1 with ⟨rfl, _, hl⟩ | ⟨n', z'⟩
    · rw [zcH (by rw [← r.len]; exact hl)] at h2
      cases h2
      exact r.wf _ w h
    · rw [zaC n'] at h2
      exact n ⟨j, x, es, z', hc, h2⟩
noncomputable def del (W : Addr → Prop) (a : Addr) : Addr → Prop := fun b => W b ∧ b ≠ a
theorem zhf {a : Addr} : ∀ b, del W a b → W b := fun _ h => h.1
theorem zfc {a : Addr} {o : Bool} (r : R K W ρ σ H) (h : ρ[j]? = some (some (.obj o d))) (h' : σ[j]? = some (some (.ref a))) :
    SPost K W ρ σ H (del W a) (ρ.set j (some (.val d))) σ H ∧ Rep K (del W a) H d (.ref a) := by
  cases o with
  | false => exact absurd h (r.nol j d)
  | true =>
  obtain ⟨a', o, e1, e2, e3, e4⟩ := r.own j _ d h rfl
  rw [h'] at e1; cases e1
  have rp : Rep K (del W a) H d (.ref a) := (e4.less zhf).rep (fun z => z.2 rfl) e3
  have nio : ¬ isIo ρ j := fun ⟨d', z⟩ => by rw [h] at z; cases z
  refine ⟨⟨⟨fun k d' hk => ?_, fun k d' hk => ?_, fun k x es hk hc => ?_, fun k l x y e1 e2 b h1 h2 c1 c2 h3 h4 => ?_, fun b w => r.wf b w.1, by simpa using r.len⟩, fun b o q _ => q, fun b w => .inl w.1, fun b w n => ⟨⟨w, fun z => ?_⟩, fun z => ?_⟩,
    fun k => ⟨(zid (x := .val d) (fun _ z => (nomatch z)) nio k).1, fun _ => rfl⟩⟩, rp⟩
  · rcases zaT hk with ⟨rfl, z, hl⟩ | ⟨n, z⟩
    · cases z; exact ⟨_, h', rp⟩
    · obtain ⟨u, h1, h2⟩ := r.val k d' z
      exact ⟨u, h1, h2.less zhf⟩
  · rcases zaT hk with ⟨rfl, z, hl⟩ | ⟨n, z⟩
    · cases z
    · exact r.nol k d' z
  · rcases zaT hk with ⟨rfl, z, hl⟩ | ⟨n, z⟩
    · cases z; cases hc
    · obtain ⟨b, ys, h1, h2, h3, h4⟩ := r.own k x es z hc
      refine ⟨b, ys, h1, ⟨h2, fun z' => ?_⟩, h3, h4.less zhf⟩
      subst z'
      exact n (r.inj j k _ x d es b h z rfl hc h' h1)
  · rcases zaT h1 with ⟨rfl, z, hl⟩ | ⟨n, z⟩
    · cases z; cases c1
    · rcases zaT h2 with ⟨rfl, z', hl⟩ | ⟨n', z'⟩
      · cases z'; cases c2
      · exact r.inj k l x y e1 e2 b z z' c1 c2 h3 h4
  · subst z
    exact n ⟨j, _, d, h, rfl, h'⟩
  · obtain ⟨k, x, es, h1, hc, h2⟩ := z
    rcases zaT h1 with ⟨rfl, z, hl⟩ | ⟨n', z⟩
    · cases z; cases hc
    · exact n ⟨k, x, es, z, hc, h2⟩
theorem zkt (x : SV) (d : D) : (x.put d).cell = some d := by cases x <;> rfl
theorem zmC (x : SV) (d d' : D) : x.put d ≠ .val d' := by cases x <;> exact fun z => nomatch z
theorem zmD (x : SV) (d d' : D) : x.put d ≠ .obj false d' := by
  cases x <;> intro z <;> first | cases z | (simp [SV.put] at z)
theorem zku {x : SV} {d : D} : (∃ d', x.put d = .io d') ↔ ∃ d', x = .io d' := by
  cases x with
  | io y => exact ⟨fun _ => ⟨_, rfl⟩, fun _ => ⟨_, rfl⟩⟩
  | _ => exact ⟨fun ⟨_, z⟩ => (nomatch z), fun ⟨_, z⟩ => (nomatch z)⟩
theorem zeR {a : Addr} {x : SV} {d0 d' : D} {o o' : HO} (r : R K W ρ σ H) (h : ρ[i]? = some (some x)) (hc : x.cell = some d0) (h' : σ[i]? = some (some (.ref a))) (s : Same H H') (e : H' a = some o) (hk : (∀ xs, o ≠ .tup xs) ∧ (∀ b u, o ≠ .frz b u))
    (rp : ORep K W H' d' o') : SPost K W ρ σ H W (ρ.set i (some (x.put d'))) σ (upd H' a o') := by
  have r' := r.same s
  have hO : Own ρ σ a := ⟨i, x, d0, h, hc, h'⟩
  have hW : W a := (r.ownW hO).1
  have ext : Ext W H' W (upd H' a o') := by
    refine ⟨fun b o q n => ?_, fun b ys q => ?_, fun b o u q => ?_, fun b w => .inl w⟩
    · rw [zaS (fun z => n (by rw [z]; exact hW))]; exact q
    · rw [zaS (fun z => by rw [z, e] at q; cases q; exact hk.1 _ rfl)]; exact q
    · rw [zaS (fun z => by rw [z, e] at q; cases q; exact hk.2 _ _ rfl)]; exact q
  have old : ∀ {k : Nat} {y : SV} {es : D}, (ρ.set i (some (x.put d')))[k]? = some (some y) → y.cell = some es → ∃ y' es', ρ[k]? = some (some y') ∧ y'.cell = some es' := fun {k y es} q c => by
    rcases zaT q with ⟨rfl, _, _⟩ | ⟨_, z⟩
    · exact ⟨_, _, h, hc⟩
    · exact ⟨_, _, z, c⟩
  refine ⟨⟨fun k d' hk => ?_, fun k d' hk => ?_, fun k y es hk hc' => ?_, fun k l x y e1 e2 b h1 h2 c1 c2 h3 h4 => ?_, fun b w => ?_, by simpa using r.len⟩, fun b o q n => ?_, fun b w => .inl w, fun b w n => ⟨w, fun z => ?_⟩, fun j => ⟨?_, fun _ => rfl⟩⟩
  · rcases zaT hk with ⟨rfl, z, hl⟩ | ⟨n, z⟩
    · exact absurd (Option.some.inj z).symm (zmC _ _ _)
    · obtain ⟨u, h1, h2⟩ := r'.val k d' z
      exact ⟨u, h1, h2.ext ext⟩
  · rcases zaT hk with ⟨rfl, z, hl⟩ | ⟨n, z⟩
    · exact absurd (Option.some.inj z).symm (zmD _ _ _)
    · exact r.nol k d' z
  · rcases zaT hk with ⟨rfl, z, hl⟩ | ⟨n, z⟩
    · cases z
      rw [zkt] at hc'
      cases hc'
      exact ⟨a, _, h', hW, zbb, rp.ext ext⟩
    · obtain ⟨b, ys, h1, h2, h3, h4⟩ := r'.own k y es z hc'
      refine ⟨b, ys, h1, h2, ?_, h4.ext ext⟩
      rw [zaS (fun z' => by subst z'; exact n (r.inj i k x y d0 es b h z hc hc' h' h1))]
      exact h3
  · obtain ⟨_, _, z1, w1⟩ := old h1 c1
    obtain ⟨_, _, z2, w2⟩ := old h2 c2
    exact r.inj k l _ _ _ _ b z1 z2 w1 w2 h3 h4
  · by_cases z : b = a
    · subst z; rw [zbb]; exact fun z => nomatch z
    · rw [zaS z]; exact r'.wf b w
  · rw [zaS (fun z => n (by rw [z]; exact hO))]
    exact s b o q
  · obtain ⟨k, y, es, h1, hc', h2⟩ := z
    obtain ⟨_, _, z, w⟩ := old h1 hc'
    exact n ⟨k, _, _, z, w, h2⟩
  · by_cases e : i = j
    · subst e
      have hl : i < ρ.length := by
        obtain ⟨z, _⟩ := List.getElem?_eq_some_iff.mp h; exact z
      constructor
      · rintro ⟨d', z⟩
        rw [zcH hl] at z
        have z := Option.some.inj (Option.some.inj z)
        obtain ⟨d2, w⟩ := zku.mp ⟨d', z⟩
        exact ⟨d2, by rw [h, w]⟩
      · rintro ⟨d2, z⟩
        rw [h] at z
        obtain ⟨d3, w⟩ := zku (d := d').mpr ⟨d2, Option.some.inj (Option.some.inj z)⟩
        exact ⟨d3, by rw [zcH hl, w]⟩
    · unfold isIo; rw [zaC e]
end
theorem Ret.back {K : PySem.W.Frag} {W W1 W2 : Addr → Prop} {ρ ρ1 : LW.Env} {σ σ1 : St} {H H1 H2 : Hp} {r : SV} {v : V} (p : SPost K W ρ σ H W1 ρ1 σ1 H1) (h : Ret K W1 ρ1 σ1 W2 H2 r v) : Ret K W ρ σ W2 H2 r v := by
  cases h with
  | val h => exact .val h
  | new h n n' e r => exact .new h (fun ⟨w, z⟩ => n (p.wout _ w z)) (fun ⟨i, z1, z2⟩ => n' ⟨i, (p.io i).1.mpr z1, by rw [(p.io i).2 z1]; exact z2⟩) e r
theorem FlOk.back {K : PySem.W.Frag} {W W1 W2 : Addr → Prop} {ρ ρ1 ρ2 : LW.Env} {σ σ1 σ2 : St} {H H1 H2 : Hp} {D : Ends} {fl : Fl} (p : SPost K W ρ σ H W1 ρ1 σ1 H1) (h : FlOk K W ρ σ W2 ρ2 σ2 H2 D fl) : FlOk K W1 ρ1 σ1 W2 ρ2 σ2 H2 D fl := by
  cases fl with
  | rt r => exact fun v q => h v (q.back p)
  | _ => exact h
structure IS (X : Cx) (ex : LW.Env → Option (Fl × LW.Env)) (st : Stmt) : Prop where
  h : PS X st (tSs X.K ex)
structure ISs (X : Cx) (ex : LW.Env → Option (Fl × LW.Env)) (st : List Stmt) : Prop where
  h : PSs X st (tSs X.K ex)
variable {fa : Nat → List D → Option Ans} {st : Stmt} {sts : List Stmt} {s : S} {ss s1 s2 : Ss}
theorem zao : ISs X (exSs fa fuel .nil) [] := .mk <| zp5.imp fun D σ H zz3 => by
  obtain ⟨W, ρ, x, hR, hx, q⟩ := zz3
  simp only [zqB] at hx; cases hx; exact q W σ H (.same hR (.refl H))
theorem zae (h1 : IS X (exS fa fuel s) st) (h2 : ISs X (exSs fa fuel ss) sts) : ISs X (exSs fa fuel (.cons s ss)) (st :: sts) :=
  .mk <| (znX h1.h h2.h).imp fun D σ H zz3 => by
    obtain ⟨W, ρ, x, hR, hx, q⟩ := zz3
    simp only [zoj, jo1] at hx
    obtain ⟨⟨fl, ρ1⟩, e1, e2⟩ := hx
    refine ⟨W, ρ, (fl, ρ1), hR, e1, fun W1 σ1 H1 p1 => ?_⟩
    cases fl with
    | nx => exact ⟨W1, ρ1, x, p1.r, e2, fun W2 σ2 H2 p2 => FlOk.back p1 (q W2 σ2 H2 (p1.trans p2 hR))⟩
    | br => cases e2; exact q W1 σ1 H1 p1
    | ct => cases e2; exact q W1 σ1 H1 p1
    | rt r => cases e2; exact q W1 σ1 H1 p1
theorem zdB (he : IE X (prj fa) e ce) (hs : swapsWith e Option.none pos.line X.env = pure false := by rfl) : IS X (exS fa fuel (.expr ce)) (.Expr e pos) :=
  .mk <| (zjn he.h hs).imp fun D σ H zz3 => by
    obtain ⟨W, ρ, x, hR, hx, q⟩ := zz3
    simp only [zqu, jo2] at hx
    obtain ⟨r, e1, rfl⟩ := hx
    exact ⟨W, ρ, r, hR, e1, fun v H1 s1 _ => q W σ H1 (.same hR s1)⟩
theorem zbe (i : Nat) {pos' : Pos} (hN : X.N.Nodup) (hi : X.N[i]? = some x) (hx : Loc X.env.scope x) (he : IE X (prj fa) e ce) (hs : swapsWith e (some (.Name x pos')) pos.line X.env = pure false := by rfl)
    (hf : X.fn x = true ∨ X.env.scope.names.lookup x = some .local := by first | exact .inl rfl | exact .inr rfl | assumption) : IS X (exS fa fuel (.asg i ce)) (.Assign [.Name x pos'] e pos) :=
  .mk <| (zlX hN hi hx he.h hs hf).imp fun D σ H zz3 => by
    obtain ⟨W, ρ, y, hR, hy, q⟩ := zz3
    simp only [zsz, jo1] at hy
    obtain ⟨r, e1, e2⟩ := hy
    split at e2
    · cases e2
    · rename_i hl
      cases e2
      simp only [Bool.not_eq_true, Bool.or_eq_false_iff, Bool.not_eq_false'] at hl
      refine ⟨W, ρ, r, hR, e1, fun v H1 s1 h => ?_⟩
      cases h with
      | val h => exact q W _ H1 (za4 hR s1 h (zbX hl.2))
      | new h e r => exact q _ _ H1 (zie hR s1 h e r (zbX hl.2))
      | see h e r => simp [SV.lent] at hl
theorem zwi (i j : Nat) {y : Str} {pos' : Pos} (hN : X.N.Nodup) (hi : X.N[i]? = some x) (hx : Loc X.env.scope x) (hj : X.N[j]? = some y) (hv : Vis X.env.scope y) (hs : swapsWith (.Name y p) (some (.Name x pos')) pos.line X.env = pure false := by rfl)
    (hf : X.fn x = true ∨ X.env.scope.names.lookup x = some .local := by first | exact .inl rfl | exact .inr rfl | assumption) (hd : (y == ("__debug__" : Str)) = false := by decide) (hcd : (y == ("__classdict__" : Str)) = false := by decide) :
    IS X (exS fa fuel (.mov i j)) (.Assign [.Name x pos'] (.Name y p) pos) :=
  .mk <| (zlX hN hi hx (zdv hj hv hd hcd) hs hf).imp fun D σ H zz3 => by
    obtain ⟨W, ρ, z, hR, hz, q⟩ := zz3
    simp only [zpx] at hz
    split at hz
    · rename_i hfr
      split at hz
      · rename_i d h
        cases hz
        obtain ⟨v, h1, h2⟩ := hR.val j d h
        exact ⟨v, h1, q W _ H (za4 hR (.refl H) h2 (zbX hfr))⟩
      · rename_i o ds h
        cases hz
        cases o with
        | false => exact absurd h (hR.nol j ds)
        | true =>
        obtain ⟨a, xs, h1, _⟩ := hR.own j _ ds h rfl
        obtain ⟨p1, rp⟩ := zfc hR h h1
        exact ⟨_, h1, q _ _ H (p1.trans (za4 p1.r (.refl H) rp fun z => zbX hfr ((p1.io _).1.mp z)) hR)⟩
      · cases hz
    · cases hz
theorem zbB (he : IE X (prj fa) e ce) : IS X (exS fa fuel (.ret ce)) (.Return (some e) pos) :=
  .mk <| (zpr he.h).imp fun D σ H zz3 => by
    obtain ⟨W, ρ, y, hR, hy, q⟩ := zz3
    simp only [zsA, jo1] at hy
    obtain ⟨r, e1, e2⟩ := hy
    split at e2
    · cases e2
    · rename_i hl
      cases e2
      refine ⟨W, ρ, r, hR, e1, fun v H1 s1 h => ?_⟩
      cases h with
      | val h => exact q W σ H1 (.same hR s1) v (.val h)
      | new h e r =>
        refine q _ σ H1 ⟨hR.add s1 h e, fun b o q _ => s1 b o q, (zhe (W := W) s1 h).win, fun b w n => ⟨.inl w, n⟩, fun _ => ⟨.rfl, fun _ => rfl⟩⟩ _ (.new (.inr rfl) (fun z => hR.wf _ z.1 h) (fun ⟨i, ⟨d, z1⟩, z2⟩ => hR.noOwn h ⟨i, _, d, z1, rfl, z2⟩) e r)
      | see h e r => simp [SV.lent] at hl
theorem zdC (i : Nat) (hN : X.N[i]? = some x) (hv : Vis X.env.scope x) (hd : (x == ("__debug__" : Str)) = false := by decide) (hcd : (x == ("__classdict__" : Str)) = false := by decide) : IS X (exS fa fuel (.retV i)) (.Return (some (.Name x p)) pos) :=
  .mk <| (zpr (zdv hN hv hd hcd)).imp fun D σ H zz3 => by
    obtain ⟨W, ρ, y, hR, hy, q⟩ := zz3
    simp only [zmp] at hy
    split at hy
    · rename_i d h
      cases hy
      obtain ⟨v, h1, h2⟩ := hR.val i d h
      exact ⟨v, h1, q W σ H (.same hR (.refl H)) v (.val h2)⟩
    · rename_i o ds h
      cases hy
      cases o with
      | false => exact absurd h (hR.nol i ds)
      | true =>
      obtain ⟨a, xs, h1, h2, h3, h4⟩ := hR.own i _ ds h rfl
      refine ⟨_, h1, q W σ H ?_ _ (.new h2 (fun z => z.2 ⟨i, _, ds, h, rfl, h1⟩) (fun zz0 => by
        obtain ⟨j, ⟨d', z1⟩, z2⟩ := zz0
        have := hR.inj i j _ _ ds d' a h z1 rfl rfl h1 z2
        subst this
        rw [h] at z1; cases z1) h3 h4)⟩
      have old : ∀ {k : Nat} {z : SV}, (ρ.set i Option.none)[k]? = some (some z) → ρ[k]? = some (some z) := fun {k z} q => by
        rcases zaT q with ⟨_, w, _⟩ | ⟨_, w⟩
        · cases w
        · exact w
      exact ⟨⟨fun k d hk => hR.val k d (old hk), fun k d hk => hR.nol k d (old hk), fun k o es hk => hR.own k o es (old hk), fun k l x y e1 e2 b z1 z2 => hR.inj k l x y e1 e2 b (old z1) (old z2), hR.wf, by simpa using hR.len⟩, fun b o q _ => q, fun b w => .inl w, fun b w n => ⟨w, fun ⟨k, x, es, z1, c, z2⟩ => n ⟨k, x, es, old z1, c, z2⟩⟩,
        fun k => ⟨⟨fun ⟨d', z⟩ => ⟨d', old z⟩, fun ⟨d', z⟩ => ⟨d', by rw [zaC (fun e => by subst e; rw [h] at z; cases z)]; exact z⟩⟩, fun _ => rfl⟩⟩
    · cases hy
theorem zkv : IS X (exS fa fuel .stop) st := .mk <| znY.imp fun D σ H zz3 => by
  obtain ⟨W, ρ, y, hR, hy, q⟩ := zz3
  simp only [zqA] at hy; cases hy
theorem s_if (hc : IT X (prj fa) c cc) (h1 : ISs X (exSs fa fuel s1) sts) (h2 : ISs X (exSs fa fuel s2) sts') : IS X (exS fa fuel (.ifs cc s1 s2)) (.If c sts sts' pos) :=
  .mk <| (zvN hc.h h1.h h2.h).imp fun D σ H zz3 => by
    obtain ⟨W, ρ, y, hR, hy, q⟩ := zz3
    simp only [zsB, jo1] at hy
    obtain ⟨k, e1, e2⟩ := hy
    refine ⟨W, ρ, k, hR, e1, fun H1 w1 => ?_⟩
    have p1 := SPost.same hR w1
    show if k = true then tSs X.K (exSs fa fuel s1) D σ H1 else tSs X.K (exSs fa fuel s2) D σ H1
    cases k with
    | true => rw [if_pos rfl] at e2 ⊢; exact ⟨W, ρ, y, p1.r, e2, fun W2 σ2 H2 p2 => FlOk.back p1 (q W2 σ2 H2 (p1.trans p2 hR))⟩
    | false => rw [if_neg Bool.false_ne_true] at e2 ⊢; exact ⟨W, ρ, y, p1.r, e2, fun W2 σ2 H2 p2 => FlOk.back p1 (q W2 σ2 H2 (p1.trans p2 hR))⟩
theorem zll (i : Nat) {apos cpos : Pos} (hN : X.N[i]? = some x) (hv : Vis X.env.scope x) (he : IE X (prj fa) e ce) (hst : starEach [e] X.env = (false, eval e X.env) :: starEach [] X.env) (hd : (x == ("__debug__" : Str)) = false) (hcd : (x == ("__classdict__" : Str)) = false)
    (hs : swapsWith (.Call (.Attribute (.Name x p) "append" apos) [e] [] cpos) Option.none pos.line X.env = pure false := by rfl)
    (hbase : attributeBase (.Name x p) "append" X.env (eval (.Name x p) X.env) = eval (.Name x p) X.env := by rfl)
    (hline : (apos.endLine == cpos.line) = true := by rfl) :
    IS X (exS fa fuel (.app i ce)) (.Expr (.Call (.Attribute (.Name x p) "append" apos) [e] [] cpos) pos) :=
  .mk <| (zjn (zsd PySem.F.plainAttrs_list PySem.F.slot_list_append PySem.F.type_list_append zh7 (zdv hN hv hd hcd) (zcB he.v zgt hst) hbase (by rw [hst]; rfl) hline hst zam) hs).imp fun D σ H zz3 => by
    obtain ⟨W, ρ, y, hR, hy, q⟩ := zz3
    simp only [zpy] at hy
    split at hy
    · rename_i x h
      split at hy
      · rename_i ds hc
        simp only [jo1] at hy
        obtain ⟨r, e1, d, e2, e3⟩ := hy
        split at e3
        · rename_i hl
          cases e3
          obtain ⟨a, o, h1, h2, h3, h4⟩ := hR.own i _ _ h hc
          cases h4 with
          | lst h4 =>
          rename_i xs
          refine ⟨_, h1, .inl ⟨rfl, xs, .of h3⟩, ?_⟩
          refine ⟨W, ρ, r, hR, e1, fun v H1 w1 f => ?_⟩
          refine ⟨a, xs, v, rfl, rfl, w1 _ _ h3, ?_, ?_⟩
          · rw [← h4.length, ← ze9]; exact hl
          · exact q W σ _ (zeR hR h hc h1 w1 (w1 _ _ h3) ⟨fun _ z => (nomatch z), fun _ _ z => (nomatch z)⟩ (.lst ((h4.ext (.same w1)).append (.cons (f.toD e2) .nil))))
        · cases e3
      · cases hy
    · cases hy
end
end L2.LW
set_option linter.all false
set_option maxHeartbeats 4000000
namespace L2.LW
open PySem PySem.Spec PyProof.Rows
noncomputable def Yl (K : PySem.W.Frag) (J : It) (W : Addr → Prop) (H : Hp) (ds : List D) : Prop :=
  ∀ W' H', Ext W H W' H' → ∀ k : Nat, (k = ds.length → J.stop k H') ∧ ∀ d, ds[k]? = some d → J.go k H' ∧ ∀ x H'', J.yld k H' x H'' → H'' = H' ∧ Rep K W' H' d x
noncomputable def Ys (K : PySem.W.Frag) (J : It) (W : Addr → Prop) (H : Hp) (ds : List D) : Prop :=
  ∀ W' H', Same H H' → (∀ a, W' a → W a ∨ H a = Option.none) → ∀ k : Nat, (k = ds.length → J.stop k H') ∧ ∀ d, ds[k]? = some d → J.go k H' ∧ ∀ x H'', J.yld k H' x H'' → H'' = H' ∧ Rep K W' H' d x
theorem Ext.sameW {W W' : Addr → Prop} {H H' : Hp} (s : Same H H') (w : ∀ a, W' a → W a ∨ H a = Option.none) : Ext W H W' H' := ⟨fun a o h _ => s a o h, fun a xs h => s a _ h, fun a o u h => s a _ h, w⟩
section
variable {K : PySem.W.Frag} {W : Addr → Prop} {H : Hp} {a : Addr} {xs : List V} {ds : List D}
theorem zif {H' : Hp} {W' : Addr → Prop} (hq : SqL K H' a xs) (rp : Reps K W' H' ds xs) (k : Nat) :
    (k = ds.length → (Itl K a).stop k H') ∧ ∀ d, ds[k]? = some d → (Itl K a).go k H' ∧ ∀ x H'', (Itl K a).yld k H' x H'' → H'' = H' ∧ Rep K W' H' d x := by
  refine ⟨fun e => ⟨xs, hq, by rw [← rp.length, e]; exact Nat.le_refl _⟩, fun d e => ?_⟩
  obtain ⟨v, e1, e2⟩ := rp.get e
  refine ⟨⟨xs, v, hq, e1⟩, fun x H'' ⟨z, y⟩ => ⟨z, ?_⟩⟩
  have := y xs hq
  rw [e1] at this
  cases this
  exact e2
theorem zmE {H' : Hp} {W' : Addr → Prop} (hq : SqT K H' a xs) (rp : Reps K W' H' ds xs) (k : Nat) :
    (k = ds.length → (Itt K a).stop k H') ∧ ∀ d, ds[k]? = some d → (Itt K a).go k H' ∧ ∀ x H'', (Itt K a).yld k H' x H'' → H'' = H' ∧ Rep K W' H' d x := by
  refine ⟨fun e => ⟨xs, hq, by rw [← rp.length, e]; exact Nat.le_refl _⟩, fun d e => ?_⟩
  obtain ⟨v, e1, e2⟩ := rp.get e
  refine ⟨⟨xs, v, hq, e1⟩, fun x H'' ⟨z, y⟩ => ⟨z, ?_⟩⟩
  have := y xs hq
  rw [e1] at this
  cases this
  exact e2
theorem zkw {H' : Hp} {W' : Addr → Prop} {lo : Int} {n : Nat} (k : Nat) :
    (k = ((List.range n).map fun (k : Nat) => D.int (lo + (k : Int))).length → (Itr lo n).stop k H') ∧
      ∀ d, ((List.range n).map fun (k : Nat) => D.int (lo + (k : Int)))[k]? = some d → (Itr lo n).go k H' ∧ ∀ x H'', (Itr lo n).yld k H' x H'' → H'' = H' ∧ Rep K W' H' d x := by
  refine ⟨fun e => ?_, fun d e => ?_⟩
  · rw [List.length_map, List.length_range] at e
    exact Nat.le_of_eq e.symm
  · rw [List.getElem?_map, jo2] at e
    obtain ⟨j, e1, rfl⟩ := e
    obtain ⟨h1, h2⟩ := List.getElem?_eq_some_iff.mp e1
    rw [List.length_range] at h1
    rw [List.getElem_range] at h2
    subst h2
    exact ⟨h1, fun x H'' ⟨z, y⟩ => ⟨z, by rw [y]; exact .int _⟩⟩
theorem zjz {W' : Addr → Prop} {H' : Hp} (h : (¬ W a ∧ Rd H a (.lst xs)) ∨ KLst K a xs) (x : Ext W H W' H') : SqL K H' a xs := by
  rcases h with ⟨n, h | ⟨o, h⟩⟩ | h
  · exact .inl (.inl (x.keep _ _ h n))
  · exact .inl (.inr ⟨o, x.keep _ _ h n⟩)
  · exact .inr h
end
noncomputable def iSeq (K : PySem.W.Frag) (tl : TE) : TI := fun σ H R => tl σ H fun x H1 => ∃ a, x = .ref a ∧ (((∃ xs, SqL K H1 a xs) ∧ R (Itl K a) H1) ∨ ((∃ xs, SqT K H1 a xs) ∧ R (Itt K a) H1))
section
variable {X : Cx} {tg l : Expr}
theorem zpA {tl : TE} (hl : PE X l tl) : PI X tg l (iSeq X.K tl) := by
  intro pins s σ H R I h
  refine thn (hl pins s σ H _ I h) fun v s1 ⟨x, H1, I1, r1, q1⟩ => ?_
  obtain ⟨a, e, q⟩ := q1
  subst e
  cases r1
  rcases q with ⟨⟨xs, hq⟩, q⟩ | ⟨⟨xs, hq⟩, q⟩
  · obtain ⟨its, rv, p, hz⟩ := I1.list hq
    refine wpAny_pyIter_list p.isList ?_
    refine ⟨s1.heap.objs.size, [s1.heap.objs.size], _, _, H1, rfl, I1.kept (t' := s1.toks) fun b o e => Heap.get?_push_of_some _ e, zlY a _, ⟨_, Heap.get?_push_size _ rfl, rfl, rfl⟩, fun b hb => ?_, q⟩
    have e : b = s1.heap.objs.size := by simpa using hb
    subst e
    exact I1.fpOk (Nat.le_refl _) (I1.hok.fresh (Nat.le_refl _))
  · obtain ⟨its, rv, p, hz⟩ := I1.tuple hq
    refine wpAny_pyIter_tuple (show s1.heap.IsTuple a its.toArray from p) ?_
    refine ⟨s1.heap.objs.size, [s1.heap.objs.size], _, _, H1, rfl, I1.kept (t' := s1.toks) fun b o e => Heap.get?_push_of_some _ e, zle a _, ⟨_, Heap.get?_push_size _ rfl, rfl, rfl⟩, fun b hb => ?_, q⟩
    have e : b = s1.heap.objs.size := by simpa using hb
    subst e
    exact I1.fpOk (Nat.le_refl _) (I1.hok.fresh (Nat.le_refl _))
end
noncomputable def tI (K : PySem.W.Frag) (fn : Nat → List D → Option SV) (rng : Bool) (src : Es) : TI := fun σ H R0 => ∃ W ρ rs ds, R K W ρ σ H ∧ evEs fn src ρ = some rs ∧ zaH rng rs = some ds ∧
  ∀ J H', Same H H' → Ys K J W H' ds → (rs.any SV.lent = false → Yl K J W H' ds) → R0 J H'
structure Src (X : Cx) (fn : Nat → List D → Option SV) (tg e : Expr) (rng : Bool) (src : Es) : Prop where
  h : PI X tg e (tI X.K fn rng src)
theorem _root_.L2.PI.imp {X : Cx} {tg l : Expr} {t t' : TI} (h : PI X tg l t) (i : ∀ σ H Q, t' σ H Q → t σ H Q) : PI X tg l t' := fun pins s σ H Q I q => h pins s σ H Q I (i σ H Q q)
section
variable {X : Cx} {fn : Nat → List D → Option SV} {fuel : Nat} {a b c e tg : Expr} {ca cb cc ce : E} {es : List Expr} {cs : Es} {pos p : Pos} {x : Str}
theorem zbN (he : IE X fn e ce) : Src X fn tg e false (.cons ce .nil) :=
  .mk <| (zpA he.v).imp fun σ H R0 zz3 => by
    obtain ⟨W, ρ, rs, ds, hR, h1, h2, q⟩ := zz3
    simp only [zbA, zbh, jo1, jo2] at h1
    obtain ⟨r, e1, rs', e3, rfl⟩ := h1
    cases e3
    simp only [zaH] at h2
    refine ⟨W, ρ, r, hR, e1, fun v H1 s1 f => ?_⟩
    unfold ze5 at h2
    split at h2
    · rename_i l hd
      cases h2
      have hs := f.sees
      rw [hd] at hs
      obtain ⟨a, xs, rfl, hq, rp⟩ := hs.tupH
      refine ⟨a, rfl, .inr ⟨⟨xs, .of hq⟩, q _ H1 s1 (fun W' H' s w k => zmE (.of (s _ _ hq)) (rp.ext (.sameW s w)) k) fun _ W' H' x k => zmE (.of (x.tup _ _ hq)) (rp.ext x) k⟩⟩
    · rename_i l hd
      cases h2
      have hs := f.sees
      rw [hd] at hs
      obtain ⟨a, xs, rfl, hq, rp⟩ := hs.lst
      refine ⟨a, rfl, .inl ⟨⟨xs, hq⟩, q _ H1 s1 (fun W' H' s w k => zif (s.seq hq) (rp.ext (.sameW s w)) k) fun hl W' H' x k => ?_⟩⟩
      have hl' : r.lent = false := by simpa using hl
      cases f with
      | val h =>
        change _ = D.lst _ at hd
        subst hd
        cases h with
        | lst h r' => exact zif (zjz h x) (r'.ext x) k
      | lis h e r' =>
        change _ = D.lst _ at hd
        subst hd
        cases r' with
        | lst r' => exact zif (.of (x.keep _ _ e h)) (r'.ext x) k
      | see h e r' => simp [SV.lent] at hl'
    · cases h2
theorem zkx (hg : Gl X "range") (hm : X.mg "range" = Option.none) (ha : IA X fn [a] (.cons ca .nil)) (hs : starEach [a] X.env = (false, eval a X.env) :: starEach [] X.env) : Src X fn tg (.Call (.Name "range" p) [a] [] pos) true (.cons ca .nil) :=
  .mk <| (zlZ hg hm ha.h hs).imp fun σ H R0 zz3 => by
    obtain ⟨W, ρ, rs, ds, hR, h1, h2, q⟩ := zz3
    refine ⟨W, ρ, rs, hR, h1, fun vs H1 s1 f => ?_⟩
    simp only [zbA, zbh, jo1, jo2] at h1
    obtain ⟨r, e1, rs', e3, rfl⟩ := h1
    cases e3
    obtain ⟨v, rfl, g⟩ : ∃ v, vs = [v] ∧ Frz X.K W H1 r v := by
      cases f with
      | cons f t => cases t; exact ⟨_, rfl, f⟩
    clear f
    cases g with
    | val g =>
      cases g with
      | int n =>
        simp only [zaH] at h2
        split at h2
        · rename_i hn
          cases h2
          exact ⟨n, rfl, hn.1, hn.2, q _ H1 s1 (fun W' H' s w k => zkw k) fun _ W' H' x k => zkw k⟩
        · cases h2
      | _ => simp [zaH] at h2
    | _ => simp [zaH] at h2
theorem zky (hg : Gl X "range") (hm : X.mg "range" = Option.none) (ha : IA X fn [a, b] (.cons ca (.cons cb .nil))) (hs : starEach [a, b] X.env = (false, eval a X.env) :: starEach [b] X.env) (hs2 : starEach [b] X.env = (false, eval b X.env) :: starEach [] X.env) :
    Src X fn tg (.Call (.Name "range" p) [a, b] [] pos) true (.cons ca (.cons cb .nil)) :=
  .mk <| (zl0 hg hm ha.h (by rw [hs, hs2]; rfl) hs2).imp fun σ H R0 zz3 => by
    obtain ⟨W, ρ, rs, ds, hR, h1, h2, q⟩ := zz3
    refine ⟨W, ρ, rs, hR, h1, fun vs H1 s1 f => ?_⟩
    simp only [zbA, zbh, jo1, jo2] at h1
    obtain ⟨r, e1, rs', ⟨r2, e2, rs'', e3, rfl⟩, rfl⟩ := h1
    cases e3
    obtain ⟨v, v2, rfl, g, f2⟩ : ∃ v v2, vs = [v, v2] ∧ Frz X.K W H1 r v ∧ Frz X.K W H1 r2 v2 := by
      cases f with
      | cons f t => cases t with
        | cons f' t => cases t; exact ⟨_, _, rfl, f, f'⟩
    clear f
    cases g with
    | val g =>
      cases f2 with
      | val f2 =>
        cases g with
        | int n =>
          cases f2 with
          | int m =>
            simp only [zaH] at h2
            split at h2
            · rename_i hn
              cases h2
              exact ⟨n, m, rfl, ⟨hn.1.1, hn.1.2, hn.2.1, hn.2.2⟩, q _ H1 s1 (fun W' H' s w k => zkw k) fun _ W' H' x k => zkw k⟩
            · cases h2
          | _ => simp [zaH] at h2
        | _ => simp [zaH] at h2
      | _ => simp [zaH] at h2
    | _ => simp [zaH] at h2
theorem zig {α : Type} {l : List α} {k : Nat} {d : α} (h : l[k]? = some d) : l.drop k = d :: l.drop (k + 1) := by
  obtain ⟨h1, h2⟩ := List.getElem?_eq_some_iff.mp h
  rw [List.drop_eq_getElem_cons h1, h2]
theorem zeS {K : PySem.W.Frag} {J : It} {ds : List D} {i : Nat} {ex : LW.Env → Option (Fl × LW.Env)} {W : Addr → Prop} {ρ : LW.Env} {σ : St} {H : Hp} {x : Fl × LW.Env} {D0 : Ends} (hR : R K W ρ σ H) (hfr : ¬ isIo ρ i) (hy : Yl K J W H ds)
    (hx : forL i ex ds ρ = some x) (q : ∀ W' σ' H', SPost K W ρ σ H W' x.2 σ' H' → FlOk K W ρ σ W' x.2 σ' H' D0 x.1) :
    ∃ Wv : Nat → Nat → St → Hp → Prop, (∃ m, Wv 0 m σ H) ∧ ∀ k m σ' H', Wv k m σ' H' →
      (J.stop k H' ∧ D0.nx σ' H') ∨ (J.go k H' ∧ ∃ N : St → Hp → Prop, (∀ σ2 H2, N σ2 H2 → ∃ m', m' < m ∧ Wv (k + 1) m' σ2 H2) ∧ ∀ v H2, J.yld k H' v H2 → zp6 i v σ' H2 fun σ2 H2 => tSs K ex { D0 with nx := N, ct := N, bk := D0.nx } σ2 H2) := by
  refine ⟨fun k m σ' H' => m = ds.length - k ∧ k ≤ ds.length ∧ ∃ W' ρ', SPost K W ρ σ H W' ρ' σ' H' ∧ forL i ex (ds.drop k) ρ' = some x, ⟨_, rfl, Nat.zero_le _, W, ρ, .same hR (.refl H), hx⟩, ?_⟩
  rintro k m σ' H' ⟨rfl, hk, W', ρ', p, hf⟩
  obtain ⟨hstop, hgo⟩ := hy W' H' (p.ext hR) k
  by_cases hlt : k < ds.length
  · have hd : ds[k]? = some ds[k] := by simp [hlt]
    obtain ⟨g1, g2⟩ := hgo _ hd
    rw [zig hd, forL, jo1] at hf
    obtain ⟨⟨fl, ρ2⟩, e1, e2⟩ := hf
    refine .inr ⟨g1, fun σ2 H2 => (ds.length - (k + 1)) = ds.length - (k + 1) ∧ k + 1 ≤ ds.length ∧ ∃ W' ρ', SPost K W ρ σ H W' ρ' σ2 H2 ∧ forL i ex (ds.drop (k + 1)) ρ' = some x, fun σ2 H2 h => ⟨_, by omega, h⟩, fun v H2 y => ?_⟩
    obtain ⟨rfl, rv⟩ := g2 v H2 y
    have p1 := za4 (i := i) p.r (.refl H2) rv fun z => hfr ((p.io i).1.mp z)
    have p01 := p.trans p1 hR
    refine ⟨W', _, (fl, ρ2), p1.r, e1, fun W3 σ3 H3 p3 => ?_⟩
    have p03 := p01.trans p3 hR
    cases fl with
    | nx => exact ⟨rfl, hlt, W3, ρ2, p03, e2⟩
    | ct => exact ⟨rfl, hlt, W3, ρ2, p03, e2⟩
    | br => cases e2; exact q W3 σ3 H3 p03
    | rt r => cases e2; exact fun v hv => q W3 σ3 H3 p03 v (hv.back p01)
  · have e : k = ds.length := by omega
    rw [List.drop_of_length_le (by omega), forL] at hf
    cases hf
    exact .inl ⟨hstop e, q W' σ' H' p⟩
variable {fa : Nat → List D → Option Ans} {sts : List Stmt} {ss : Ss}
theorem zjA (i : Nat) {rng : Bool} {src : Es} {px : Pos} (hp : PassesOwn (model X.prog X.w) X.A X.env X.xe) (hc : X.calm = true) (hN : X.N.Nodup) (hi : X.N[i]? = some x) (hx : Loc X.env.scope x) (hs : Src X (prj fa) (.Name x px) e rng src) (hb : ISs X (exSs fa fuel ss) sts)
    (hf : X.fn x = true ∨ X.env.scope.names.lookup x = some .local := by first | exact .inl rfl | exact .inr rfl | assumption) (hfo : ∀ x, foldedSetIterable e X.env x = pure x := by intro _; rfl) : IS X (exS fa fuel (.for_ i rng src ss)) (.For (.Name x px) e sts [] pos) :=
  .mk <| (zps hp hc hs.h (zea hN hi hx hf) hb.h hfo).imp fun D0 σ H zz3 => by
    obtain ⟨W, ρ, y, hR, hy, q⟩ := zz3
    simp only [zqy, jo1] at hy
    obtain ⟨rs, e1, e2⟩ := hy
    split at e2
    · cases e2
    · rename_i hl
      simp only [Bool.not_eq_true, Bool.or_eq_false_iff, Bool.not_eq_false'] at hl
      rw [jo1] at e2
      obtain ⟨ds, e3, e4⟩ := e2
      refine ⟨W, ρ, rs, ds, hR, e1, e3, fun J H1 s1 _ hyl => ?_⟩
      have p1 := SPost.same hR s1
      exact zeS p1.r (zbX hl.2) (hyl hl.1) e4 fun W' σ' H' p => FlOk.back p1 (q W' σ' H' (p1.trans p hR))
theorem zmF (i j : Nat) {y : Str} {px : Pos} (hp : PassesOwn (model X.prog X.w) X.A X.env X.xe) (hc : X.calm = true) (hN : X.N.Nodup) (hi : X.N[i]? = some x) (hx : Loc X.env.scope x) (hj : X.N[j]? = some y) (hv : Vis X.env.scope y) (hb : ISs X (exSs fa fuel ss) sts)
    (hf : X.fn x = true ∨ X.env.scope.names.lookup x = some .local := by first | exact .inl rfl | exact .inr rfl | assumption) (hd : (y == ("__debug__" : Str)) = false := by decide) (hcd : (y == ("__classdict__" : Str)) = false := by decide)
    (hfo : ∀ x, foldedSetIterable (.Name y p) X.env x = pure x := by intro _; rfl) : IS X (exS fa fuel (.forV i j ss)) (.For (.Name x px) (.Name y p) sts [] pos) :=
  .mk <| (zps hp hc (zpA (zdv hj hv hd hcd)) (zea hN hi hx hf) hb.h hfo).imp fun D0 σ H zz3 => by
    obtain ⟨W, ρ, z, hR, hz, q⟩ := zz3
    simp only [zqz] at hz
    split at hz
    case isFalse => cases hz
    rename_i hfr
    have hfr := zbX hfr
    simp only [jo1, zgv] at hz
    obtain ⟨⟨ds, ρ1⟩, e1, e2⟩ := hz
    split at e1
    · rename_i d h
      rw [jo2] at e1
      obtain ⟨l, e3, e4⟩ := e1
      cases e4
      obtain ⟨v, h1, h2⟩ := hR.val j d h
      refine ⟨v, h1, ?_⟩
      unfold ze5 at e3
      split at e3
      · cases e3
        cases h2 with
        | tup hq rp => exact ⟨_, rfl, .inr ⟨⟨_, .of hq⟩, zeS hR hfr (fun W' H' x k => zmE (.of (x.tup _ _ hq)) (rp.ext x) k) e2 q⟩⟩
      · cases e3
        cases h2 with
        | lst hq rp => exact ⟨_, rfl, .inl ⟨⟨_, hq.elim (fun z => .inl z.2) fun z => .inr z⟩, zeS hR hfr (fun W' H' x k => zif (zjz hq x) (rp.ext x) k) e2 q⟩⟩
      · cases e3
    · rename_i o es h
      cases e1
      cases o with
      | false => exact absurd h (hR.nol j _)
      | true =>
      obtain ⟨a, xs, h1, h2, h3, h4⟩ := hR.own j _ _ h rfl
      cases h4 with
      | lst h4 =>
      obtain ⟨p1, rp⟩ := zfc hR h h1
      refine ⟨_, h1, a, rfl, .inl ⟨⟨_, .of h3⟩, ?_⟩⟩
      refine zeS p1.r (fun z => hfr ((p1.io i).1.mp z)) (fun W' H' x k => ?_) e2 fun W' σ' H' p => FlOk.back p1 (q W' σ' H' (p1.trans p hR))
      cases rp with
      | lst hq rp => exact zif (zjz hq x) (rp.ext x) k
    · cases e1
theorem zjB (hp : PassesOwn (model X.prog X.w) X.A X.env X.xe) (hc : IT X (prj fa) c cc) (hb : ISs X (exSs fa fuel ss) sts) : IS X (exS fa fuel (.while_ cc ss)) (.While c sts [] pos) :=
  .mk <| (znZ hp hc.h hb.h).imp fun D0 σ H zz3 => by
    obtain ⟨W, ρ, y, hR, hy, q⟩ := zz3
    simp only [zmq] at hy
    refine ⟨fun m σ' H' => ∃ W' ρ', SPost X.K W ρ σ H W' ρ' σ' H' ∧ zcy (evT (prj fa) cc) (exSs fa fuel ss) m ρ' = some y, ⟨fuel, W, ρ, .same hR (.refl H), hy⟩, ?_⟩
    rintro m σ' H' ⟨W', ρ', p, hw⟩
    cases m with
    | zero => simp [zcy] at hw
    | succ m =>
      rw [zcy, jo1] at hw
      obtain ⟨k, e1, e2⟩ := hw
      refine ⟨W', ρ', k, p.r, e1, fun H1 s1 => ?_⟩
      have p1 := SPost.same p.r s1
      have p01 := p.trans p1 hR
      cases k with
      | false =>
        rw [if_neg Bool.false_ne_true] at e2
        cases e2
        exact iteF (q W' σ' H1 p01)
      | true =>
        rw [if_pos rfl] at e2
        rw [jo1] at e2
        obtain ⟨⟨fl, ρ2⟩, e3, e4⟩ := e2
        refine iteT ⟨fun σ2 H2 => ∃ W' ρ', SPost X.K W ρ σ H W' ρ' σ2 H2 ∧ zcy (evT (prj fa) cc) (exSs fa fuel ss) m ρ' = some y, fun σ2 H2 h => ⟨m, Nat.lt_succ_self m, h⟩, ?_⟩
        refine ⟨W', ρ', (fl, ρ2), p1.r, e3, fun W3 σ3 H3 p3 => ?_⟩
        have p03 := p01.trans p3 hR
        cases fl with
        | nx => exact ⟨W3, ρ2, p03, e4⟩
        | ct => exact ⟨W3, ρ2, p03, e4⟩
        | br => cases e4; exact q W3 σ3 H3 p03
        | rt r => cases e4; exact fun v hv => q W3 σ3 H3 p03 v (hv.back p01)
end
theorem zih (io : List Nat) : ∀ (ds : List D) (k i : Nat), (zdb io k ds)[i]? = (ds[i]?).map fun d => some (if io.contains (k + i) then SV.io d else .val d)
  | [], k, i => by simp [zdb]
  | d :: r, k, 0 => by simp [zdb]
  | d :: r, k, i + 1 => by
    rw [zdb, List.getElem?_cons_succ, zih io r (k + 1) i, List.getElem?_cons_succ]
    have : k + 1 + i = k + (i + 1) := by omega
    rw [this]
theorem zdD (io : List Nat) : ∀ (ds : List D) (k : Nat), (zdb io k ds).length = ds.length
  | [], k => rfl
  | d :: r, k => by simp [zdb, zdD io r (k + 1)]
theorem zqJ {io : List Nat} {ds : List D} {n : Nat} {i : Nat} {x : SV} (h : (zdb io 0 ds ++ List.replicate n Option.none)[i]? = some (some x)) :
    ∃ d, ds[i]? = some d ∧ x = if io.contains i then SV.io d else .val d := by
  by_cases hi : i < ds.length
  · rw [List.getElem?_append_left (by rw [zdD]; exact hi), zih, jo2] at h
    obtain ⟨d, e1, e2⟩ := h
    rw [Nat.zero_add] at e2
    exact ⟨d, e1, (Option.some.inj e2).symm⟩
  · rw [List.getElem?_append_right (by rw [zdD]; omega)] at h
    rw [List.getElem?_replicate] at h
    split at h <;> cases h
theorem zcX {N : List Str} {vs : List V} {i : Nat} {v : V} (h : vs[i]? = some v) : (zdw N vs)[i]? = some (some v) := by
  have hi : i < vs.length := (List.getElem?_eq_some_iff.mp h).1
  unfold zdw
  rw [List.getElem?_append_left (by simpa using hi), List.getElem?_map, h]
  rfl
theorem zjC {K : PySem.W.Frag} {W W' : Addr → Prop} {H' : Hp} {ρ' : LW.Env} {σ' : St} {vs : List V} (hR : R K W' ρ' σ' H') (sub : ∀ b, W b → W' b) : ∀ {io : List Nat} {outs : List D}, zce ρ' io = some outs → (∀ k ∈ io, isIo ρ' k → ∃ a, σ'[k]? = some (some (.ref a)) ∧ vs[k]? = some (.ref a)) → Outs K W H' io vs outs
  | [], outs, e, _ => by simp only [zce] at e; cases e; exact .nil
  | k :: r, outs, e, hs => by
    simp only [zce] at e
    split at e
    · rename_i d h
      rw [jo2] at e
      obtain ⟨l, e1, rfl⟩ := e
      obtain ⟨a, h1, h2⟩ := hs k List.mem_cons_self ⟨d, h⟩
      obtain ⟨a', o, h3, _, h5, h6⟩ := hR.own k _ d h rfl
      rw [h1] at h3; cases h3
      exact .cons ⟨a, o, h2, h5, h6.less sub⟩ (zjC hR sub e1 fun j hj => hs j (List.mem_cons_of_mem _ hj))
    · cases e
theorem zbC {Pg : Program} {w : World} {K : PySem.W.Frag} {mg : Str → Option Value} {base : Heap} {x qual : Str} {st : Stmt} {f : Addr} {fd : FuncData} {N ps : List Str} {k n i : Nat} {P : Nat → Option Fn} {fuel : Nat} {F0 : Fn} {io : List Nat}
    (F : Fun K x qual st f fd) (S : FnScope N ps (zaa st)) (hP : P i = some F0) (hnp : F0.np = ps.length) (hnl : F0.nl = N.length) (hio : F0.io = io) (hiop : io.all (fun k => decide (k < F0.np)) = true) (hxb : F0.xb = Option.none)
    (hbody : ∀ (cdv : Value) (A : Around) (outer : List PySem.Env) (s : Shared) (H : Hp) (E : XK), Room k (A.deeper (envOfC qual (zaa st) s.heap.objs.size f cdv)) →
      ISs (cxOf CX0 Pg w K mg base N qual (zaa st) f cdv A outer s H E).nox (exSs (zas P fuel n) fuel F0.body) (zag st)) :
    FnOk Pg w K mg base CX0 (k + 1) f fd ps (spA K (zas P fuel (n + 1)) i io) := by
  subst hio
  have dec : ∀ {ds : List D} {r : Ans}, zas P fuel (n + 1) i ds = some r → ds.length = F0.np ∧ endA F0.io (exSs (zas P fuel n) fuel F0.body (zdb F0.io 0 ds ++ List.replicate (F0.nl - F0.np) Option.none)) = some r := fun {ds r} h => by
    rw [zas, hP] at h
    simp only [Option.bind_some, hxb] at h
    split at h
    · exact ⟨by assumption, h⟩
    · cases h
  refine F.ok S (fun vs H Q E h => ?_) (fun cdv A outer s H vs Q E hr h => ⟨_, (hbody cdv A outer s H E hr).h, ?_⟩)
  · obtain ⟨W, ds, r, outs, wf, rp, e, _⟩ := h
    rw [← rp.len, (dec e).1, hnp]
  · obtain ⟨W, ds, r, outs, wf, rp, e, q⟩ := h
    obtain ⟨hl, he⟩ := dec e
    have hlv := rp.len
    have hplN : ps.length ≤ N.length := by have := congrArg List.length S.pre; rw [List.length_take] at this; omega
    generalize hρ : zdb F0.io 0 ds ++ List.replicate (F0.nl - F0.np) Option.none = ρ at he
    have at_ : ∀ {j : Nat} {x : SV}, ρ[j]? = some (some x) → ∃ d, ds[j]? = some d ∧ x = if F0.io.contains j then SV.io d else .val d := fun {j x} h => by rw [← hρ] at h; exact zqJ h
    have own_io : ∀ a, Own ρ (zdw N vs) a → ioV F0.io vs a := fun a zz1 => by
      obtain ⟨j, x, d, h1, hc, h2⟩ := zz1
      obtain ⟨d', e1, e2⟩ := at_ h1
      split at e2
      · rename_i hj
        have hj : j ∈ F0.io := by simpa using hj
        obtain ⟨b, o, h3, _⟩ := rp.obj j d' e1 hj
        rw [zcX h3] at h2
        cases h2
        exact ⟨j, hj, h3⟩
      · subst e2; cases hc
    have hR : R K W ρ (zdw N vs) H := by
      refine ⟨fun j d h => ?_, fun j d h => ?_, fun j x d h hc => ?_, fun j k x y d e a h1 h2 c1 c2 h3 h4 => ?_, wf, ?_⟩
      · obtain ⟨d', e1, e2⟩ := at_ h
        split at e2
        · cases e2
        · rename_i hj
          cases e2
          obtain ⟨v, h1, h2⟩ := rp.val j d e1 (by simpa using hj)
          exact ⟨v, zcX h1, h2⟩
      · obtain ⟨d', e1, e2⟩ := at_ h
        split at e2 <;> cases e2
      · obtain ⟨d', e1, e2⟩ := at_ h
        split at e2
        · rename_i hj
          subst e2; cases hc
          obtain ⟨b, o, h3, h4, h5, h6⟩ := rp.obj j d e1 (by simpa using hj)
          exact ⟨b, o, zcX h3, h4, h5, h6⟩
        · subst e2; cases hc
      · obtain ⟨d1, e1, e2⟩ := at_ h1
        obtain ⟨d2, e3, e4⟩ := at_ h2
        split at e2
        · rename_i hj
          split at e4
          · rename_i hk
            have hj : j ∈ F0.io := by simpa using hj
            have hk : k ∈ F0.io := by simpa using hk
            obtain ⟨b, o, z1, _⟩ := rp.obj j d1 e1 hj
            obtain ⟨b', o', z2, _⟩ := rp.obj k d2 e3 hk
            rw [zcX z1] at h3; cases h3
            rw [zcX z2] at h4; cases h4
            exact rp.inj j k _ hj hk z1 z2
          · subst e4; cases c2
        · subst e2; cases c1
      · rw [← hρ]
        unfold zdw
        rw [List.length_append, List.length_append, zdD, List.length_map, List.length_replicate, List.length_replicate]
        omega
    cases hx : exSs (zas P fuel n) fuel F0.body ρ with
    | none => rw [hx] at he; cases he
    | some y =>
      rw [hx] at he
      obtain ⟨fl, ρ'⟩ := y
      refine ⟨W, ρ, (fl, ρ'), hR, hx, fun W' σ' H' p => ?_⟩
      have kp : ∀ a o, H a = some o → ¬ ioV F0.io vs a → H' a = some o := fun b o h n => p.keep b o h fun z => n (own_io b z)
      have io_at : ∀ k ∈ F0.io, isIo ρ' k → ∃ a, σ'[k]? = some (some (.ref a)) ∧ vs[k]? = some (.ref a) := fun j hj z => by
        have z0 := (p.io j).1.mp z
        obtain ⟨d0, z1⟩ := z0
        obtain ⟨d', e1, e2⟩ := at_ z1
        obtain ⟨b, o, h3, _⟩ := rp.obj j d' e1 hj
        exact ⟨b, by rw [(p.io j).2 ⟨d0, z1⟩, zcX h3], h3⟩
      have sub : ∀ b, W b → W' b := fun b w => by
        by_cases hb : Own ρ (zdw N vs) b
        · obtain ⟨j, x, d, h1, hc, h2⟩ := hb
          obtain ⟨d', e1, e2⟩ := at_ h1
          split at e2
          · subst e2
            obtain ⟨d2, z⟩ := (p.io j).1.mpr ⟨d', h1⟩
            obtain ⟨a', o, h3, h4, _⟩ := p.r.own j _ d2 z rfl
            rw [(p.io j).2 ⟨d', h1⟩, h2] at h3
            cases h3
            exact h4
          · subst e2; cases hc
        · exact (p.wout b w hb).1
      cases fl with
      | br => cases he
      | ct => cases he
      | nx =>
        simp only [endA, jo2] at he
        obtain ⟨l, e1, e2⟩ := he
        cases e2
        exact q _ H' kp (zjC p.r sub e1 io_at) (.val .non)
      | rt r' =>
        simp only [endA, jo2] at he
        obtain ⟨l, e1, e2⟩ := he
        cases e2
        intro v hv
        have ho := zjC p.r sub e1 io_at
        cases hv with
        | val h => exact q v H' kp ho (.val (h.less sub))
        | new h nn n' eL rr =>
          have ha := (p.win _ h).resolve_left fun w => nn ⟨w, fun zz0 => by
            obtain ⟨j, x, d, h1, hc, h2⟩ := zz0
            obtain ⟨d', e1, e2⟩ := at_ h1
            split at e2
            · subst e2; exact n' ⟨j, ⟨d', h1⟩, h2⟩
            · subst e2; cases hc⟩
          refine q _ H' kp ho (.new ha eL (rr.less fun b w => ?_))
          rcases w with w | rfl
          · exact sub b w
          · exact h
end L2.LW
set_option linter.all false
set_option maxHeartbeats 4000000
namespace L2.LW
open PySem PySem.Spec PyProof.Rows
noncomputable def clos (env : PySem.Env) : List (Str × NameKind) → List (Str × Addr) → List (Str × Addr)
  | [], acc => acc
  | (n, k) :: r, acc => if k == .free then clos env r ((n, (env.cells.lookup n).getD 0) :: acc) else clos env r acc
theorem zgz (env : PySem.Env) : ∀ (names : List (Str × NameKind)) (acc : List (Str × Addr)), (∀ y ∈ names, y.2 = .free → (env.cells.lookup y.1).isSome = true) →
    (forIn names acc fun (x : Str × NameKind) (cs : List (Str × Addr)) => (if (x.2 == NameKind.free) = true then (do let c ← cellOf env x.1; pure (ForInStep.yield ((x.1, c) :: cs)) : Sem (ForInStep (List (Str × Addr)))) else pure (ForInStep.yield cs))) = (pure (clos env names acc) : Sem (List (Str × Addr)))
  | [], acc, _ => rfl
  | (n, k) :: r, acc, h => by
    have ih := fun acc => zgz env r acc fun y hy => h y (List.mem_cons_of_mem _ hy)
    rw [List.forIn_cons]
    by_cases hk : (k == NameKind.free) = true
    · have hs := h (n, k) List.mem_cons_self (by simpa using hk)
      obtain ⟨c, hc⟩ := Option.isSome_iff_exists.mp hs
      have hc : env.cells.lookup n = some c := hc
      simp only [hk, if_true, cellOf, hc, clos, Option.getD_some]
      show (forIn r ((n, c) :: acc) _ : Sem _) = _
      exact ih _
    · simp only [hk, if_false, clos]
      show (forIn r acc _ : Sem _) = _
      exact ih _
theorem zfd {scope : Scope} {env : PySem.Env} (h : ∀ y ∈ scope.names, y.2 = .free → (env.cells.lookup y.1).isSome = true) : closureFor scope env = pure (clos env scope.names []) := by
  have key : closureFor scope env = ((forIn scope.names ([] : List (Str × Addr)) fun (x : Str × NameKind) (cs : List (Str × Addr)) =>
    (if (x.2 == NameKind.free) = true then (do let c ← cellOf env x.1; pure (ForInStep.yield ((x.1, c) :: cs)) : Sem (ForInStep (List (Str × Addr)))) else pure (ForInStep.yield cs))) >>= fun cs => pure cs) := rfl
  rw [key, zgz env scope.names [] h]
  rfl
theorem zcm {env : PySem.Env} {y : Str} {c : Addr} : ∀ {names : List (Str × NameKind)} {acc : List (Str × Addr)}, (∀ z ∈ names, z.2 = .free → (env.cells.lookup z.1).isSome = true) → (clos env names acc).lookup y = some c →
    acc.lookup y = some c ∨ env.cells.lookup y = some c
  | [], _, _, e => .inl e
  | (n, k) :: r, acc, h, e => by
    unfold clos at e
    split at e
    · rename_i hk
      rcases zcm (fun z hz => h z (List.mem_cons_of_mem _ hz)) e with q | q
      · rw [List.lookup_cons] at q
        split at q
        · rename_i hy
          have hy : y = n := by simpa using hy
          subst hy
          obtain ⟨c', hc⟩ := Option.isSome_iff_exists.mp (h (y, k) List.mem_cons_self (by simpa using hk))
          have hc : env.cells.lookup y = some c' := hc
          rw [hc] at q
          cases q
          exact .inr hc
        · exact .inl q
      · exact .inr q
    · exact zcm (fun z hz => h z (List.mem_cons_of_mem _ hz)) e
theorem zhg {env : PySem.Env} {y : Str} : ∀ {names : List (Str × NameKind)} {acc : List (Str × Addr)}, ((acc.lookup y).isSome = true ∨ (y, NameKind.free) ∈ names) → ((clos env names acc).lookup y).isSome = true
  | [], acc, h => by
    rcases h with h | h
    · exact h
    · cases h
  | (n, k) :: r, acc, h => by
    unfold clos
    split
    · rename_i hk
      refine zhg ?_
      by_cases e : y = n
      · subst e; exact .inl (by simp)
      · have hb : (y == n) = false := by simpa using e
        rcases h with h | h
        · exact .inl (by rw [List.lookup_cons, hb]; exact h)
        · rcases List.mem_cons.mp h with z | z
          · cases z; exact absurd rfl e
          · exact .inr z
    · rename_i hk
      refine zhg ?_
      rcases h with h | h
      · exact .inl h
      · rcases List.mem_cons.mp h with z | z
        · cases z; exact absurd rfl hk
        · exact .inr z
noncomputable def hide (x : Str) (N : List Str) : List Str := N.map fun y => if y = x then ("" : Str) else y
noncomputable def zde (scope : Scope) (x : Str) (c : Addr) (cl : List (Str × Addr)) : List (Str × Addr) := if scope.names.lookup x = some .cell then (x, c) :: cl else cl
noncomputable def zbJ (X : Cx) (scope : Scope) (x : Str) (s₃ : Shared) (H₃ : Hp) (fp : List Addr) (pins : List (Addr × Obj)) : Cx :=
  { X with N := x :: hide x X.N, s₀ := s₃, H₀ := H₃, env := compEnvC scope (zde scope x (s₃.heap.objs.size + 1) (clos X.env scope.names [])) s₃.heap.objs.size X.env, outer := X.stack, stack := X.stack, ex := fp, fn := fun y => decide (y = x) && decide (scope.names.lookup x = some .cell), pn := X.pn ++ pins, xe := fun _ _ => False }
structure CompSc (X : Cx) (scope : Scope) (x : Str) : Prop where
  kind : scope.kind = .function
  loc : scope.names.lookup x = some .local ∨ scope.names.lookup x = some .cell
  names : ∀ y ∈ scope.names, y.2 = .local → scope.names.lookup y.1 = some .local
  cell1 : scope.names.filter (fun y => y.2 == .cell) = if scope.names.lookup x = some .cell then [(x, .cell)] else []
  free : ∀ y ∈ scope.names, y.2 = .free → X.env.scope.names.lookup y.1 = some .cell ∨ X.env.scope.names.lookup y.1 = some .free
  own : ∀ y ∈ X.N, scope.names.lookup y = some .local → y = x
  none : scope.names.lookup ("" : Str) = Option.none
  nd : (x :: hide x X.N).Nodup
theorem zcY {y : Str} {k : NameKind} : ∀ {l : List (Str × NameKind)}, l.lookup y = some k → (y, k) ∈ l
  | [], h => by cases h
  | (n, j) :: r, h => by
    rw [List.lookup_cons] at h
    split at h
    · rename_i e
      have e : y = n := by simpa using e
      cases h; subst e
      exact List.mem_cons_self
    · exact List.mem_cons_of_mem _ (zcY h)
theorem zbf {env : PySem.Env} {y : Str} {k : NameKind} : ∀ {names : List (Str × NameKind)},
    (names.map fun (z : Str × NameKind) => match z with | (n, k) => if (k == NameKind.free && env.scope.kind == .function && env.kindOf n == some .cell) = true then (n, NameKind.cell) else (n, k)).lookup y = some k →
    names.lookup y = some k ∨ (k = .cell ∧ names.lookup y = some .free)
  | [], h => by cases h
  | (n, j) :: r, h => by
    rw [List.map_cons, List.lookup_cons] at h
    rw [List.lookup_cons]
    by_cases hc : (j == NameKind.free && env.scope.kind == .function && env.kindOf n == some .cell) = true
    · simp only [hc, if_true] at h
      cases e : y == n with
      | true =>
        rw [e] at h
        cases h
        have hj : j = .free := by
          simp only [Bool.and_eq_true] at hc
          simpa using hc.1.1
        exact .inr ⟨rfl, by rw [hj]⟩
      | false => rw [e] at h; exact zbf h
    · simp only [hc, Bool.false_eq_true, if_false] at h
      cases e : y == n with
      | true => rw [e] at h; exact .inl h
      | false => rw [e] at h; exact zbf h
section
variable {X : Cx} {scope : Scope} {x : Str} {s₃ : Shared} {H₃ : Hp} {fp : List Addr} {pins : List (Addr × Obj)} {σ : St}
theorem CompSc.onlyC (S : CompSc X scope x) {y : Str} (h : scope.names.lookup y = some .cell) : y = x ∧ scope.names.lookup x = some .cell := by
  have hm : (y, NameKind.cell) ∈ scope.names.filter (fun y => y.2 == .cell) := List.mem_filter.mpr ⟨zcY h, rfl⟩
  rw [S.cell1] at hm
  split at hm
  · simp at hm; subst hm; exact ⟨rfl, h⟩
  · cases hm
theorem zdE {x : Str} : ∀ (names : List (Str × NameKind)) (a : Nat) (acc : List (Str × Addr)) (h : Heap), names.filter (fun y => y.2 == .cell) = [(x, .cell)] → cellsFrom a names acc = (x, a) :: acc ∧ pushCells h names = h.push { cls := .type "cell", data := .cell Option.none }
  | [], _, _, _, e => by cases e
  | (n, k) :: r, a, acc, h, e => by
    have none_ : ∀ (names : List (Str × NameKind)) (a : Nat) (acc : List (Str × Addr)) (h : Heap), names.filter (fun y => y.2 == .cell) = [] → cellsFrom a names acc = acc ∧ pushCells h names = h := by
      intro names
      induction names with
      | nil => intro a acc h _; exact ⟨rfl, rfl⟩
      | cons y r ih =>
        intro a acc h e
        obtain ⟨n, k⟩ := y
        rw [List.filter_cons] at e
        split at e
        · cases e
        · rename_i hk
          have hk : (k == NameKind.cell) = false := by simpa using hk
          unfold cellsFrom pushCells
          rw [hk]
          exact ih a acc h e
    rw [List.filter_cons] at e
    split at e
    · rename_i hk
      injection e with e1 e2
      cases e1
      unfold cellsFrom pushCells
      simp only [beq_self_eq_true, if_true]
      exact none_ r _ _ _ e2
    · rename_i hk
      have hk : (k == NameKind.cell) = false := by simpa using hk
      unfold cellsFrom pushCells
      rw [hk]
      exact zdE r a acc h e
theorem zdf : ∀ (names : List (Str × NameKind)) (a : Nat) (acc : List (Str × Addr)) (h : Heap), names.filter (fun y => y.2 == .cell) = [] → cellsFrom a names acc = acc ∧ pushCells h names = h
  | [], _, _, _, _ => ⟨rfl, rfl⟩
  | (n, k) :: r, a, acc, h, e => by
    rw [List.filter_cons] at e
    split at e
    · cases e
    · rename_i hk
      have hk : (k == NameKind.cell) = false := by simpa using hk
      unfold cellsFrom pushCells
      rw [hk]
      exact zdf r a acc h e
theorem zjD {M : Model} {A : Around} {E : Value → Shared → Prop} {s : Shared} {globals : Addr} {cl : List (Str × Addr)} {qual : Str} {env : PySem.Env} {Q : PySem.Env → Shared → Prop} (S : CompSc X scope x)
    (h : ∀ h₁, h₁.Ns s.heap.objs.size (fun _ => Option.none) → (∀ b o, s.heap.get? b = some o → h₁.get? b = some o) → (scope.names.lookup x = some .cell → h₁.IsCell (s.heap.objs.size + 1) Option.none) →
      Q (newEnv scope s.heap.objs.size globals (zde scope x (s.heap.objs.size + 1) cl) qual Option.none .none (some env) builtinsNs) { s with heap := h₁ }) :
    wpAny M A (newFunctionEnv scope globals cl [] qual Option.none .none (some env)) Q E s := by
  simp only [newFunctionEnv, Option.isSome_some, if_true]
  refine wpAny_bind (wpAny_alloc ?_)
  refine wpAny_bind (wpAny_layCells _ (fun name kind cells => by cases hkc : kind == NameKind.cell <;> simp [hkc]) _ _ _ _ ?_)
  rw [List.forIn_nil]
  refine wpAny_bind (wpAny_pure (wpAny_pure ?_))
  rw [show ({ s with heap := s.heap.push { cls := .type "dict", data := .dict #[] } } : Shared).heap.objs.size = s.heap.objs.size + 1 from Heap.size_push ..]
  have hc := S.cell1
  by_cases hx : scope.names.lookup x = some .cell
  · rw [if_pos hx] at hc
    obtain ⟨e1, e2⟩ := zdE (x := x) scope.names (s.heap.objs.size + 1) cl (s.heap.push { cls := .type "dict", data := .dict #[] }) hc
    have h' := h (pushCells (s.heap.push { cls := .type "dict", data := .dict #[] }) scope.names) ((Heap.Ns.new s.heap (.type "dict")).keeps (pushCells_keeps _ _)) (fun b o e => pushCells_keeps _ _ b o (Heap.get?_push_of_some _ e)) (fun _ => by
      rw [e2]
      have : (s.heap.push { cls := .type "dict", data := .dict #[] }).objs.size = s.heap.objs.size + 1 := Heap.size_push ..
      rw [← this]
      exact ⟨_, Heap.get?_push_size _ rfl, rfl⟩)
    rw [e1]
    unfold zde at h'
    rw [if_pos hx] at h'
    exact h'
  · rw [if_neg hx] at hc
    obtain ⟨e1, e2⟩ := zdf scope.names (s.heap.objs.size + 1) cl (s.heap.push { cls := .type "dict", data := .dict #[] }) hc
    have h' := h (pushCells (s.heap.push { cls := .type "dict", data := .dict #[] }) scope.names) ((Heap.Ns.new s.heap (.type "dict")).keeps (pushCells_keeps _ _)) (fun b o e => pushCells_keeps _ _ b o (Heap.get?_push_of_some _ e)) (fun z => absurd z hx)
    rw [e1]
    unfold zde at h'
    rw [if_neg hx] at h'
    exact h'
theorem CompSc.cells (S : CompSc X scope x) (ok : X.Ok) : ∀ y ∈ scope.names, y.2 = .free → (X.env.cells.lookup y.1).isSome = true := fun y hy hk => by
  obtain ⟨c, hc⟩ := ok.has y.1 (S.free y hy hk)
  rw [hc]; rfl
theorem CompSc.look (S : CompSc X scope x) (ok : X.Ok) {y : Str} {c : Addr} (h : (zbJ X scope x s₃ H₃ fp pins).env.cells.lookup y = some c) :
    (y = x ∧ scope.names.lookup x = some .cell ∧ c = s₃.heap.objs.size + 1) ∨ ((y ≠ x ∨ scope.names.lookup x ≠ some .cell) ∧ X.env.cells.lookup y = some c) := by
  have h : (zde scope x (s₃.heap.objs.size + 1) (clos X.env scope.names [])).lookup y = some c := h
  have old : (clos X.env scope.names []).lookup y = some c → X.env.cells.lookup y = some c := fun h => by
    rcases zcm (S.cells ok) h with q | q
    · cases q
    · exact q
  unfold zde at h
  split at h
  · rename_i hc
    rw [List.lookup_cons] at h
    split at h
    · rename_i e
      cases h
      exact .inl ⟨by simpa using e, hc, rfl⟩
    · rename_i e
      exact .inr ⟨.inl (by simpa using e), old h⟩
  · rename_i hc
    exact .inr ⟨.inr hc, old h⟩
theorem CompSc.kindOf (S : CompSc X scope x) {y : Str} (h : (zbJ X scope x s₃ H₃ fp pins).env.kindOf y = some .cell ∨ (zbJ X scope x s₃ H₃ fp pins).env.kindOf y = some .free) : scope.names.lookup y = some .free ∨ (y = x ∧ scope.names.lookup x = some .cell) := by
  rcases h with h | h
  · rcases zbf (show _ = _ from h) with q | ⟨_, q⟩
    · exact .inr (S.onlyC q)
    · exact .inl q
  · rcases zbf (show _ = _ from h) with q | ⟨z, q⟩
    · exact .inl q
    · cases z
theorem CompSc.has (S : CompSc X scope x) {y : Str} (h : scope.names.lookup y = some .free) : ∃ c, (zbJ X scope x s₃ H₃ fp pins).env.cells.lookup y = some c ∧ (clos X.env scope.names []).lookup y = some c := by
  obtain ⟨c, hc⟩ := Option.isSome_iff_exists.mp (zhg (env := X.env) (names := scope.names) (acc := []) (y := y) (.inr (zcY h)))
  refine ⟨c, ?_, hc⟩
  show (zde scope x (s₃.heap.objs.size + 1) (clos X.env scope.names [])).lookup y = some c
  unfold zde
  split
  · rename_i hx
    have : (y == x) = false := by
      cases e : y == x with
      | false => rfl
      | true => have e : y = x := by simpa using e
                subst e; rw [h] at hx; cases hx
    rw [List.lookup_cons, this]
    exact hc
  · exact hc
theorem zcI {env : PySem.Env} {y : Str} : ∀ {names : List (Str × NameKind)}, names.lookup y = some .cell →
    (names.map fun (z : Str × NameKind) => match z with | (n, k) => if (k == NameKind.free && env.scope.kind == .function && env.kindOf n == some .cell) = true then (n, NameKind.cell) else (n, k)).lookup y = some .cell
  | [], h => by cases h
  | (n, j) :: r, h => by
    rw [List.lookup_cons] at h
    rw [List.map_cons, List.lookup_cons]
    by_cases hc : (j == NameKind.free && env.scope.kind == .function && env.kindOf n == some .cell) = true
    · simp only [hc, if_true]
      cases e : y == n with
      | true => rfl
      | false => rw [e] at h; exact zcI h
    · simp only [hc, Bool.false_eq_true, if_false]
      cases e : y == n with
      | true => rw [e] at h; exact h
      | false => rw [e] at h; exact zcI h
theorem CompSc.locX (S : CompSc X scope x) : Loc (zbJ X scope x s₃ H₃ fp pins).env.scope x := by
  rcases S.loc with h | h
  · exact .inl (lookup_relabel_local h)
  · exact .inr (zcI h)
theorem CompSc.fnX (S : CompSc X scope x) : (zbJ X scope x s₃ H₃ fp pins).fn x = true ∨ (zbJ X scope x s₃ H₃ fp pins).env.scope.names.lookup x = some .local := by
  rcases S.loc with h | h
  · exact .inr (lookup_relabel_local h)
  · left
    show (decide (x = x) && decide (scope.names.lookup x = some .cell)) = true
    simp [h]
theorem zmG (S : CompSc X scope x) (I : Inv X pins σ H₃ s₃) (hf : ∀ b ∈ fp, FpOk X pins H₃ b) (hlt : ∀ b ∈ fp, b < s₃.heap.objs.size) : (zbJ X scope x s₃ H₃ fp pins).Ok where
  mod := I.ok.mod
  kind := S.kind
  glob := I.ok.glob
  blt := I.ok.blt
  above := Nat.le_refl _
  inj := fun y z c h1 h2 => by
    have old : ∀ {y : Str} {c : Addr}, X.env.cells.lookup y = some c → c < s₃.heap.objs.size := fun {y c} h => by
      obtain ⟨v, o, ho, _⟩ := I.cell y c h
      exact Heap.lt_size ho
    rcases S.look I.ok h1 with ⟨e1, _, e2⟩ | ⟨_, q1⟩
    · rcases S.look I.ok h2 with ⟨e3, _, e4⟩ | ⟨_, q2⟩
      · rw [e1, e3]
      · have := old q2; rw [e2] at this; exact absurd this (Nat.not_lt.mpr (Nat.le_succ _))
    · rcases S.look I.ok h2 with ⟨e3, _, e4⟩ | ⟨_, q2⟩
      · have := old q1; rw [e4] at this; exact absurd this (Nat.not_lt.mpr (Nat.le_succ _))
      · exact I.ok.inj y z c q1 q2
  has := fun y h => by
    rcases S.kindOf h with q | ⟨q1, q2⟩
    · obtain ⟨c, hc, _⟩ := S.has (s₃ := s₃) (H₃ := H₃) (fp := fp) (pins := pins) q
      exact ⟨c, hc⟩
    · refine ⟨s₃.heap.objs.size + 1, ?_⟩
      show (zde scope x (s₃.heap.objs.size + 1) (clos X.env scope.names [])).lookup y = _
      unfold zde
      rw [if_pos q2, q1, List.lookup_cons, beq_self_eq_true]
  cab := fun y c h hc => by
    have h : (decide (y = x) && decide (scope.names.lookup x = some .cell)) = true := h
    rw [Bool.and_eq_true, decide_eq_true_iff, decide_eq_true_iff] at h
    rcases S.look I.ok hc with ⟨_, _, e⟩ | ⟨q, _⟩
    · rw [e]; exact Nat.le_succ _
    · exact absurd h (fun z => q.elim (fun w => w z.1) fun w => w z.2)
  hd := I.ok.hd
  frames := I.ok.frames
  stk := .inl rfl
  exf := fun b hb => ⟨Nat.ne_of_lt (hlt b hb), fun y c h => by
    rcases S.look I.ok h with ⟨_, _, e⟩ | ⟨_, q⟩
    · rw [e]; exact fun z => absurd (z ▸ hlt b hb) (Nat.not_lt.mpr (Nat.le_succ _))
    · exact (hf b hb).2.2.2.2.1 y c q⟩
  bs := I.bs
  bsz := Nat.le_trans I.ok.bsz I.sz
  noex := fun b o e hb => by
    obtain ⟨_, _, _, h, _⟩ := hf b hb
    rcases h with h | h
    · exact I.ok.noex b o e h
    · exact absurd (Nat.lt_of_lt_of_le (Heap.lt_size e) (Nat.le_trans I.ok.bsz h)) (Nat.lt_irrefl _)
  exfs := fun b hb hz => by
    obtain ⟨_, h1, h2, _⟩ := hf b hb
    rcases List.mem_cons.mp (I.stkSub b hz) with e | e
    · exact h1 e
    · exact h2 e
  funs := I.stack
  frf := I.stkFree
theorem zon {N : List Str} {i : Nat} {y : Str} (h : (hide x N)[i]? = some y) : ∃ z, N[i]? = some z ∧ ((z = x ∧ y = "") ∨ (z ≠ x ∧ y = z)) := by
  unfold hide at h
  rw [List.getElem?_map, jo2] at h
  obtain ⟨z, e1, e2⟩ := h
  refine ⟨z, e1, ?_⟩
  split at e2
  · exact .inl ⟨by assumption, e2.symm⟩
  · exact .inr ⟨by assumption, e2.symm⟩
theorem zoo {h₁ : Heap} {tk : Nat} (S : CompSc X scope x) (I : Inv X pins σ H₃ s₃) (hf : ∀ b ∈ fp, FpOk X pins H₃ b) (hlt : ∀ b ∈ fp, b < s₃.heap.objs.size) (hns : h₁.Ns s₃.heap.objs.size fun _ => Option.none)
    (hk : ∀ b o, s₃.heap.get? b = some o → h₁.get? b = some o) (zf2 : scope.names.lookup x = some .cell → h₁.IsCell (s₃.heap.objs.size + 1) Option.none) : Inv (zbJ X scope x s₃ H₃ fp pins) [] (Option.none :: σ) H₃ { s₃ with heap := h₁, toks := tk } := by
  refine ⟨zmG S I hf hlt, rfl, I.bare, Un.kept hk, ⟨_, hns, fun i y v h1 h2 h3 => ?_⟩, fun y c h => ?_, I.hok.fresh (Nat.le_refl _), fun y c h => ?_, fun p hp => ?_, I.hok.kept hk, ?_⟩
  · cases i with
    | zero => cases h2
    | succ i =>
      have h1 : (hide x X.N)[i]? = some y := h1
      have h2 : σ[i]? = some (some v) := h2
      obtain ⟨z, e1, e2⟩ := zon h1
      have vis : scope.names.lookup y = some .local ∨ scope.names.lookup y = some .free := by
        rcases h3 with q | q
        · rcases zbf (show _ = _ from q) with q | ⟨z, q⟩
          · exact .inl q
          · cases z
        · rcases S.kindOf q with q | ⟨q, _⟩
          · exact .inr q
          · exfalso
            rcases e2 with ⟨_, z⟩ | ⟨ne, z⟩
            · have hx : x = "" := q.symm.trans z
              have hn := S.none
              rw [← hx] at hn
              rcases S.loc with w | w <;> rw [hn] at w <;> cases w
            · exact ne (z.symm.trans q)
      rcases e2 with ⟨rfl, rfl⟩ | ⟨ne, rfl⟩
      · rw [S.none] at vis
        rcases vis with q | q <;> cases q
      · rcases vis with q | q
        · exact absurd (S.own y (List.mem_of_getElem? e1) q) ne
        · have kx := S.free _ (zcY q) rfl
          obtain ⟨m, _, hl⟩ := I.loc
          obtain ⟨u, ru, l⟩ := hl i y v e1 h2 (.inr kx)
          refine ⟨u, ru, .inr ⟨?_, ?_⟩⟩
          · rcases h3 with q' | q'
            · rcases zbf (show _ = _ from q') with q' | ⟨z, _⟩
              · rw [q] at q'; cases q'
              · cases z
            · exact q'
          · rcases l with ⟨k, _⟩ | ⟨_, c, hc, hcell'⟩
            · have k : X.env.scope.names.lookup y = some .local := k
              rcases kx with z | z
              · have z : X.env.scope.names.lookup y = some .cell := z
                rw [z] at k; cases k
              · have z : X.env.scope.names.lookup y = some .free := z
                rw [z] at k; cases k
            · obtain ⟨c', hc', hc2⟩ := S.has (s₃ := s₃) (H₃ := H₃) (fp := fp) (pins := pins) q
              have e : X.env.cells.lookup y = some c' := by
                rcases zcm (S.cells I.ok) hc2 with q | q
                · cases q
                · exact q
              rw [hc] at e
              cases e
              obtain ⟨o, ho, hd⟩ := hcell'
              exact ⟨c, hc', o, hk _ _ ho, hd⟩
  · rcases S.look I.ok h with ⟨_, q, e⟩ | ⟨_, q⟩
    · rw [e]; exact ⟨Option.none, zf2 q⟩
    · obtain ⟨v, o, ho, hd⟩ := I.cell y c q
      exact ⟨v, o, hk _ _ ho, hd⟩
  · rcases S.look I.ok h with ⟨_, q, e⟩ | ⟨_, q⟩
    · rw [e]; exact I.hok.fresh (Nat.le_succ _)
    · exact I.freeC y c q
  · have hp : p ∈ X.pn ++ pins := by simpa [zbJ] using hp
    obtain ⟨e, n, ne, nf, d⟩ := I.pin p hp
    refine ⟨hk _ _ e, n, Nat.ne_of_lt (Heap.lt_size e), fun z => ?_, d⟩
    rcases List.mem_cons.mp (I.stkSub _ z) with q | q
    · exact ne q
    · exact nf q
  · show σ.length + 1 = (x :: hide x X.N).length
    unfold hide
    rw [List.length_cons, List.length_map, I.len]
theorem zmH {s' : Shared} {h' : Heap} {H' : Hp} {σ' : St} {ps : List (Addr × Obj)} (I : Inv X pins σ H₃ s₃) (hf : ∀ b ∈ fp, FpOk X pins H₃ b) (J : Inv (zbJ X scope x s₃ H₃ fp pins) ps σ' H' s') (hs : Heap.SameBut s₃.heap.objs.size s'.heap h') :
    Inv X pins σ H' { s' with heap := h' } := by
  have ne : ∀ b o, s₃.heap.get? b = some o → b ≠ s₃.heap.objs.size := fun b o e => Nat.ne_of_lt (Heap.lt_size e)
  have fr : H' s₃.heap.objs.size = Option.none := J.free
  have same : ∀ b, b ≠ s₃.heap.objs.size → h'.get? b = s'.heap.get? b := fun b hb => hs.2 b hb
  refine I.call' (s' := { s' with heap := h' }) (ch := fp) J.os ⟨fun b o e n hb hx => ?_, fun b o e n hb hx => ?_, fun b o e n hx => J.base.free b o e n hx, fun b o e hx => ?_, J.base.tups, J.base.frzs, J.base.tbls⟩ (fun b o e => ?_) J.bare fun b hb => ?_
  · exact (same b (ne b o e)).trans (J.base.keep b o e n hb hx)
  · obtain ⟨sl, q⟩ := J.base.slot b o e n hb hx
    exact ⟨sl, (same b (ne b o e)).trans q⟩
  · obtain ⟨o', q⟩ := J.base.there b o e hx
    exact ⟨o', (same b (ne b o e)).trans q⟩
  · refine (J.hok b o e).stay (fun c v hc q => (same c ?_).trans q) (fun _ q => q) fun _ _ q => q
    intro z
    rcases hc with w | w
    · rw [← w, z, fr] at e; cases e
    · rw [z, fr] at w; cases w
  · obtain ⟨_, h1, _, h3, h4, h5⟩ := hf b hb
    exact ⟨h3, h1, h4, h5⟩
end
theorem zlm {prog : Program} {w : World} {A : Around} {E : Result → Shared → Prop} {s : Shared} {elt target iter : Expr} {ifs : List Expr} {scope : Scope} {pos : Pos} {it acc : Value} {env : PySem.Env} (J : Nat → Shared → Prop)
    (turn : ∀ n s, J n s → wpAny (model prog w) A (pyNext it) (fun r s1 => match r with
      | Option.none => E (.ok .next) s1
      | some v => wpAny (model prog w) A (letOwnedTupleGo target it v) (fun _ s2 => wpAny (model prog w) A (assign target env v) (fun _ s3 =>
          wpAny (model prog w) A (forIn ifs true fun c r => if r = true then do let ok ← isTrue c env (eval c env); pure (ForInStep.yield ok) else pure (ForInStep.yield r)) (fun ok s4 =>
            if ok = true then wpAny (model prog w) A (eval elt env) (fun y s5 => wpAny (model prog w) A (call (.builtin "list.append") [acc, y]) (fun _ s6 => ∃ m, m < n ∧ J m s6) (fun _ _ => False) s5) (fun _ _ => False) s4
            else ∃ m, m < n ∧ J m s4) (fun _ _ => False) s3) (fun _ _ => False) s2) (fun _ _ => False) s1) (fun _ _ => False) s)
    (n : Nat) (h : J n s) : codeAny (model prog w) A (.compLoop (.ListComp elt [⟨target, iter, ifs, 0⟩] scope pos) 0 it acc env) E s := by
  refine codeAny_loop rfl J (fun n s hJ => ?_) n h
  show wpAny _ _ ((compTurn (.ListComp elt [⟨target, iter, ifs, 0⟩] scope pos) 0 it acc env).onRaise _) _ _ s
  refine wpAny_noted ?_
  rw [compTurn_list]
  have no : ∀ (e : Value) (s' : Shared), False → notedBy (model prog w) A env (fun e s' => E (.error e) s') e s' := fun _ _ z => z.elim
  refine wpAny_bind (wpAny_standAt (wpAny_bind (wpAny_mono (turn n s hJ) (fun r s1 h1 => ?_) no)))
  cases r with
  | none => exact wpAny_pure h1
  | some v =>
    refine wpAny_bind (wpAny_mono h1 (fun _ s2 h2 => ?_) no)
    refine wpAny_bind (wpAny_mono h2 (fun _ s3 h3 => wpAny_bind (wpAny_mono h3 (fun ok s4 h4 => ?_) no)) no)
    cases ok with
    | false => exact wpAny_pure ⟨rfl, h4⟩
    | true => exact wpAny_bind (wpAny_bind (wpAny_mono h4 (fun y s5 h5 => wpAny_bind (wpAny_mono h5 (fun _ s6 h6 => wpAny_pure (wpAny_pure ⟨rfl, h6⟩)) no)) no))
theorem R.cons {K : PySem.W.Frag} {W : Addr → Prop} {ρ : LW.Env} {σ : St} {H : Hp} {d : D} {v : V} (r : R K W ρ σ H) (h : Rep K W H d v) : R K W (some (.val d) :: ρ) (some v :: σ) H := by
  refine ⟨fun i e hi => ?_, fun i e hi => ?_, fun i x e hi hc => ?_, fun i j x y d e a h1 h2 c1 c2 h3 h4 => ?_, r.wf, by simpa using r.len⟩
  · cases i with
    | zero => cases hi; exact ⟨v, rfl, h⟩
    | succ i => exact r.val i e hi
  · cases i with
    | zero => cases hi
    | succ i => exact r.nol i e hi
  · cases i with
    | zero => cases hi; cases hc
    | succ i => exact r.own i x e hi hc
  · cases i with
    | zero => cases h1; cases c1
    | succ i =>
      cases j with
      | zero => cases h2; cases c2
      | succ j => rw [r.inj i j x y d e a h1 h2 c1 c2 h3 h4]
noncomputable def zmI (X : Cx) (fn : Nat → List D → Option SV) (scope : Scope) (x : Str) (ifs : List Expr) (cond : E) : Prop :=
  (ifs = [] ∧ cond = .bl true) ∨ ∃ c, ifs = [c] ∧ ∀ s₃ H₃ fp pins, IT (zbJ X scope x s₃ H₃ fp pins) fn c cond
section
variable {X : Cx} {fn : Nat → List D → Option SV}
theorem zop {scope : Scope} {x : Str} {ifs : List Expr} {cond : E} {s₃ : Shared} {H₃ : Hp} {fp : List Addr} {pins ps : List (Addr × Obj)} {σ : St} {H : Hp} {s : Shared} {W : Addr → Prop} {ρ : LW.Env} {k : Bool} {Q : Bool → Hp → Prop}
    (hc : zmI X fn scope x ifs cond) (I : Inv (zbJ X scope x s₃ H₃ fp pins) ps σ H s) (hR : R X.K W ρ σ H) (he : evT fn cond ρ = some k) (q : ∀ H', Same H H' → Q k H') :
    wpAny (model X.prog X.w) X.A (forIn ifs true fun c r => if r = true then do let ok ← isTrue c (zbJ X scope x s₃ H₃ fp pins).env (eval c (zbJ X scope x s₃ H₃ fp pins).env); pure (ForInStep.yield ok) else pure (ForInStep.yield r))
      (TP (zbJ X scope x s₃ H₃ fp pins) ps σ Q) (fun _ _ => False) s := by
  rcases hc with ⟨rfl, rfl⟩ | ⟨c, rfl, hc⟩
  · simp only [zwe] at he
    cases he
    exact wpAny_tests_nil ⟨H, I, q H (.refl H)⟩
  · exact wpAny_tests_one ((hc s₃ H₃ fp pins).h ps s σ H Q I ⟨W, ρ, k, hR, he, q⟩)
theorem zfe {test : D → Option Bool} {elt : D → Option SV} : ∀ {ds out : List D}, zdn test elt ds = some out → out.length ≤ ds.length
  | [], _, h => by simp only [zdn] at h; cases h; exact Nat.le_refl _
  | d :: r, out, h => by
    simp only [zdn, jo1] at h
    obtain ⟨b, e1, e2⟩ := h
    cases b with
    | true =>
      simp only [jo1, jo2] at e2
      obtain ⟨_, _, _, _, l, e3, rfl⟩ := e2
      have := zfe e3
      simp; omega
    | false => have := zfe e2; simp; omega
theorem zqK {scope : Scope} {x : Str} {s₃ : Shared} {H₃ H' : Hp} {fp : List Addr} {pins : List (Addr × Obj)} {σ : St} (S : CompSc X scope x) (I : Inv X pins σ H₃ s₃) (hf : ∀ b ∈ fp, FpOk X pins H₃ b) (hlt : ∀ b ∈ fp, b < s₃.heap.objs.size)
    (hn : ∀ b ∈ fp, H' b = Option.none) : ∀ b ∈ fp, FpOk (zbJ X scope x s₃ H₃ fp pins) [] H' b := fun b hb => by
  have ok := zmG S I hf hlt
  refine ⟨hn b hb, (ok.exf b hb).1, ok.exfs b hb, .inl hb, (ok.exf b hb).2, fun p hp => ?_⟩
  have hp : p ∈ X.pn ++ pins := by simpa [zbJ] using hp
  exact (hf b hb).2.2.2.2.2 p hp
structure CSt (X : Cx) (scope : Scope) (x : Str) (s₃ : Shared) (H₃ : Hp) (fp : List Addr) (pins : List (Addr × Obj)) (σ : St) (tn : Nat → Heap → Prop) (H2 : Hp) (W : Addr → Prop) (L : Addr) (test : D → Option Bool) (elt : D → Option SV) (ds out : List D)
    (n k : Nat) (y : Option V) (H' : Hp) (ys : List V) (out1 rest : List D) (s' : Shared) : Prop where
  inv : Inv (zbJ X scope x s₃ H₃ fp pins) [] (y :: σ) H' s'
  htn : tn k s'.heap
  hfp : ∀ b ∈ fp, H' b = Option.none
  hn : n = ds.length + 1 - k
  hk : k ≤ ds.length
  same : Same H2 H'
  lst : H' L = some (.lst ys)
  reps : Reps X.K (add W L) H' out1 ys
  hrest : zdn test elt (ds.drop k) = some rest
  hout : out = out1 ++ rest
theorem zmJ {iter elt : Expr} {x : Str} {px pos pos2 : Pos} {ifs : List Expr} {scope : Scope} {rng : Bool} {src : Es} {cond ce : E} {pins : List (Addr × Obj)} {s : Shared} {σ : St} {H : Hp} {W : Addr → Prop} {ρ : LW.Env} {rs : List SV} {ds out : List D} {use : Option (Value → Sem Unit)} {Qe : Value → Shared → Prop}
    (hcalm : X.calm = true) (S : CompSc X scope x) (hsrc : Src X fn (.Name x px) iter rng src)
    (hcond : zmI X fn scope x ifs cond) (helt : ∀ s₃ H₃ fp pins, IE (zbJ X scope x s₃ H₃ fp pins) fn elt ce) (hfo : ∀ y, foldedSetIterable iter X.env y = pure y) (I : Inv X pins σ H s) (hR : R X.K W ρ σ H)
    (e1 : evEs fn src ρ = some rs) (e2 : zaH rng rs = some ds) (hline : ds.length ≤ line) (e3 : zdn (fun d => evT fn cond (some (.val d) :: ρ)) (fun d => evE fn ce (some (.val d) :: ρ)) ds = some out)
    (fin : ∀ (s4 : Shared) (fl : Flow) (m : Str → Option Value) (C L : Addr) (H' : Hp), s4.heap.Ns C m → (∀ h', Heap.SameBut C s4.heap h' → Inv X pins σ H' { s4 with heap := h' }) → (X.s₀.heap.objs.size ≤ C ∧ C ≠ X.env.locals ∧ (∀ y c, X.env.cells.lookup y = some c → c ≠ C) ∧ (∀ p ∈ X.pn ++ pins, p.1 ≠ C) ∧ H' C = Option.none) → Same H H' →
      Res X.K W H H' (.obj true (.lst out)) (.ref L) → compPost (model X.prog X.w) X.A X.xe use Qe (.ref L) C (.ok fl) s4) :
    wpAny (model X.prog X.w) X.A (comprehension (.ListComp elt [⟨.Name x px, iter, ifs, 0⟩] scope pos) scope X.env pos2 (newList []) false (eval iter X.env) use) Qe X.xe s := by
  have hclos := zfd (scope := scope) (env := X.env) (S.cells I.ok)
  refine wpAny_comprehension_free (use := use) rfl hfo hclos S.kind S.names ?_
  refine thn (hsrc.h pins s σ H (fun J H2 => Same H H2 ∧ Ys X.K J W H2 ds) I ⟨W, ρ, rs, ds, hR, e1, e2, fun J H' s1 y _ => ⟨s1, y⟩⟩) fun v s1 h1 => thn h1 fun itv s2 h2 => ?_
  obtain ⟨it, fp, tn, J, H2, rfl, I2, T, st2, f2, sm, hy⟩ := h2
  refine wpAny_newObj_type (zjD S fun h₁ hns₁ hk₁ hc₁ => ?_)
  have I3 := I2.lnew (t' := s2.toks) (ys := []) (its := []) .nil (Nat.zero_le _)
  have hD : H2 s2.heap.objs.size = Option.none := I2.fresh
  generalize hL : s2.heap.objs.size = L at hD
  generalize hs3 : ({ s2 with heap := s2.heap.push { cls := .type "list", data := .seq ([] : List Value).toArray }, toks := s2.toks } : Shared) = s₃ at I3
  have hs3h : s₃.heap = s2.heap.push { cls := .type "list", data := .seq ([] : List Value).toArray } := by rw [← hs3]
  rw [hL] at I3
  generalize hH3 : upd H2 L (.lst []) = H₃ at I3
  have blt : ∀ b ∈ fp, b < s2.heap.objs.size := fun b hb => by
    obtain ⟨o, e, _⟩ := T.obj _ _ st2 b hb
    exact Heap.lt_size e
  have hlt : ∀ b ∈ fp, b < s₃.heap.objs.size := fun b hb => by rw [hs3h, Heap.size_push]; exact Nat.lt_succ_of_lt (blt b hb)
  have hf : ∀ b ∈ fp, FpOk X pins H₃ b := fun b hb => by
    refine ⟨?_, (f2 b hb).2⟩
    rw [← hH3, zaS (by rw [← hL]; exact Nat.ne_of_lt (blt b hb))]
    exact (f2 b hb).1
  have keep1 : ∀ b o, s₃.heap.get? b = some o → h₁.get? b = some o := fun b o e => by
    rw [hs3h] at e
    exact hk₁ b o e
  have ns1 : h₁.Ns s₃.heap.objs.size fun _ => Option.none := by rw [hs3h]; exact hns₁
  have Ic := zoo (tk := s2.toks) S I3 hf hlt ns1 keep1 (by rw [hs3h]; exact hc₁)
  have fpc := fun {H' : Hp} hn => zqK (H' := H') S I3 hf hlt hn
  have win : ∀ b, add W L b → W b ∨ H2 b = Option.none := fun b w => by
    rcases w with w | rfl
    · exact .inl w
    · exact .inr hD
  have hRL : ∀ {H' : Hp} {ys : List V}, Same H2 H' → H' L = some (.lst ys) → R X.K (add W L) ρ σ H' := fun {H' ys} sm' e => (hR.same sm).add sm' hD e
  have lenO : out.length ≤ ds.length := zfe e3
  have loop : ∀ s' : Shared, s' = { s₃ with heap := h₁, toks := s2.toks } → codeAny (model X.prog X.w) X.A (.compLoop (.ListComp elt [⟨.Name x px, iter, ifs, 0⟩] scope pos) 0 (.ref it) (.ref L) (zbJ X scope x s₃ H₃ fp pins).env)
      (compPost (model X.prog X.w) X.A X.xe use Qe (.ref L) s₃.heap.objs.size) s' := by
    rintro s' rfl
    refine zlm (fun n s' => ∃ k y H' ys out1 rest, CSt X scope x s₃ H₃ fp pins σ tn H2 W L (fun d => evT fn cond (some (.val d) :: ρ)) (fun d => evE fn ce (some (.val d) :: ρ)) ds out n k y H' ys out1 rest s') ?_ (ds.length + 1)
      ⟨0, Option.none, H₃, [], [], out, Ic, T.keep _ _ _ st2 (fun b hb o e => keep1 b o (by rw [hs3h]; exact Heap.get?_push_of_some _ e)), fun b hb => (hf b hb).1, rfl, Nat.zero_le _, by rw [← hH3]; exact za1 hD _, by rw [← hH3]; exact zbb, .nil, e3, rfl⟩
    rintro n s' ⟨k, y, H', ys, out1, rest, c⟩
    obtain ⟨hstop, hgo⟩ := hy (add W L) H' c.same win k
    by_cases hk : k < ds.length
    · have hd : ds[k]? = some ds[k] := by simp [hk]
      obtain ⟨g1, g2⟩ := hgo _ hd
      have crest := c.hrest
      rw [zig hd] at crest
      simp only [zdn, jo1] at crest
      obtain ⟨b, t1, t2⟩ := crest
      refine thn (T.item (zbJ X scope x s₃ H₃ fp pins) rfl rfl rfl hcalm k [] s' (y :: σ) H' _ c.inv (fpc c.hfp) c.htn g1) fun r s4 ⟨u, hr, h4⟩ => ?_
      subst hr
      refine thn h4 fun _ s5 ⟨xv, H5, I5, r5, y5, st5, fr5⟩ => ?_
      obtain ⟨rfl, rv⟩ := g2 xv H5 y5
      have I5' := I5.pinned (fpc fr5) (T.obj _ _ st5)
      refine thn (zea (X := zbJ X scope x s₃ H₃ fp pins) (i := 0) S.nd rfl S.locX S.fnX _ s5 (y :: σ) H5 xv u (fun σ' H' => σ' = some xv :: σ ∧ H' = H5) I5' r5 ⟨rfl, rfl⟩) fun _ s6 ⟨σ6, H6, I6, q6, q7⟩ => ?_
      subst q6 q7
      have hRc := (hRL c.same c.lst).cons rv
      refine thn (zop (Q := fun b' H7 => b' = b ∧ Same H6 H7) hcond I6 hRc t1 fun H7 s7 => ⟨rfl, s7⟩) fun ok s7 ⟨H7, I7, q7, m7⟩ => ?_
      subst q7
      have back : ∀ {s' : Shared} {H' : Hp}, Inv (zbJ X scope x s₃ H₃ fp pins) ([] ++ zh1 fp s5.heap) (some xv :: σ) H' s' → tn (k + 1) s'.heap ∧ ∀ b ∈ fp, H' b = Option.none := fun {s' H'} J => by
        refine ⟨T.keep _ _ _ st5 fun b hb o e => (J.pin (b, o) (List.mem_append_right _ (List.mem_append_right _ (zcW hb e)))).1, fun b hb => ?_⟩
        obtain ⟨o, e, d⟩ := T.obj _ _ st5 b hb
        exact (J.pin (b, o) (List.mem_append_right _ (List.mem_append_right _ (zcW hb e)))).2.1
      cases ok with
      | false =>
        rw [if_neg Bool.false_ne_true]
        have bk := back I7
        exact ⟨_, by have := c.hn; omega, k + 1, some xv, H7, ys, out1, rest, I7.unpinned, bk.1, bk.2, rfl, hk, c.same.trans m7, m7 _ _ c.lst, c.reps.ext (.same m7), t2, c.hout⟩
      | true =>
        rw [if_pos rfl]
        simp only [jo1, jo2] at t2
        obtain ⟨r8, t3, d8, t4, rest', t5, rfl⟩ := t2
        have hR7 := hRc.same m7
        refine thn ((helt s₃ H₃ fp pins).h _ s7 _ H7 (fun v H8 => Same H7 H8 ∧ Rep X.K (add W L) H8 d8 v) I7 ⟨add W L, _, r8, hR7, t3, fun v8 H8 m8 res => ⟨m8, (res.frz hR7.wf).toD t4⟩⟩) fun u8 s8 ⟨v8, H8, I8, rl8, m8, rp8⟩ => ?_
        have lst8 := m8 _ _ (m7 _ _ c.lst)
        have lenY := c.reps.length
        have lenT := congrArg List.length c.hout
        rw [List.length_append, List.length_cons] at lenT
        have le := ze9
        refine thn (zh7 (X := zbJ X scope x s₃ H₃ fp pins) _ s8 _ H8 (.ref L) [v8] (.ref L) [u8] (fun _ H9 => H9 = upd H8 L (.lst (ys ++ [v8]))) I8 rfl (.cons rl8 .nil) ⟨L, ys, v8, rfl, rfl, lst8, by omega, rfl⟩) fun _ s9 ⟨_, H9, I9, _, q9⟩ => ?_
        subst q9
        have bk := back I9
        have ext : Ext (add W L) H8 (add W L) (upd H8 L (.lst (ys ++ [v8]))) := by
          refine ⟨fun b o q n => ?_, fun b zs q => ?_, fun b o u q => ?_, fun b w => .inl w⟩
          · rw [zaS (fun z => n (.inr z))]; exact q
          · rw [zaS (fun z => by rw [z, lst8] at q; cases q)]; exact q
          · rw [zaS (fun z => by rw [z, lst8] at q; cases q)]; exact q
        have smL : Same H2 (upd H8 L (.lst (ys ++ [v8]))) := fun b o q => by
          rw [zaS (fun z => by rw [z, hD] at q; cases q)]
          exact m8 _ _ (m7 _ _ (c.same _ _ q))
        exact ⟨_, by have := c.hn; omega, k + 1, some xv, _, ys ++ [v8], out1 ++ [d8], rest', I9.unpinned, bk.1, bk.2, rfl, hk, smL, zbb, ((c.reps.ext (.same (m7.trans m8))).ext ext).append (.cons (rp8.ext ext) .nil), t5, by rw [c.hout]; simp⟩
    · have ek : k = ds.length := by have := c.hk; omega
      refine thn (T.done (zbJ X scope x s₃ H₃ fp pins) rfl rfl rfl hcalm k [] s' (y :: σ) H' _ c.inv (fpc c.hfp) c.htn (hstop ek)) fun r s4 ⟨hr, I4⟩ => ?_
      subst hr
      obtain ⟨m, hn, _⟩ := I4.loc
      have er := c.hrest
      rw [List.drop_of_length_le (by omega), zdn] at er
      cases er
      have eo := c.hout
      rw [List.append_nil] at eo
      refine fin s4 _ m _ L H' hn (fun h' hs => zmH I3 hf I4 hs) ⟨I3.sz, (Nat.ne_of_lt I3.lt).symm, fun y cc hc => ?_, fun p hp => ?_, I4.free⟩ (sm.trans c.same) (by rw [eo]; exact .new (sm.free hD) c.lst (.lst c.reps))
      · obtain ⟨v, o, ho, _⟩ := I3.cell y cc hc
        exact Nat.ne_of_lt (Heap.lt_size ho)
      · exact Nat.ne_of_lt (Heap.lt_size (I3.pin p hp).1)
  have st0 : tn 0 h₁ := T.keep _ _ _ st2 (fun b hb o e => keep1 b o (by rw [hs3h]; exact Heap.get?_push_of_some _ e))
  subst hs3 hL
  exact codeAny_compStart_list (loop _ rfl) (T.self X.A 0 _ _ _ st0 (loop _ rfl))
theorem zdF {iter elt : Expr} {x : Str} {px pos : Pos} {ifs : List Expr} {scope : Scope} {rng : Bool} {src : Es} {cond ce : E} (hcalm : X.calm = true) (S : CompSc X scope x) (hsrc : Src X fn (.Name x px) iter rng src)
    (hcond : zmI X fn scope x ifs cond) (helt : ∀ s₃ H₃ fp pins, IE (zbJ X scope x s₃ H₃ fp pins) fn elt ce) (hfo : ∀ y, foldedSetIterable iter X.env y = pure y := by intro _; rfl) :
    IE X fn (.ListComp elt [⟨.Name x px, iter, ifs, 0⟩] scope pos) (.comp rng src cond ce) := by
  refine .mk ?_
  rintro pins s σ H Q I ⟨W, ρ, r, hR, he, q⟩
  simp only [zqr, jo1] at he
  obtain ⟨rs, e1, ds, e2, e3⟩ := he
  split at e3
  case isFalse => cases e3
  rename_i hline
  rw [jo2] at e3
  obtain ⟨out, e3, rfl⟩ := e3
  rw [eval_ListComp]
  refine zmJ (use := Option.none) hcalm S hsrc hcond helt hfo I hR e1 e2 hline e3 fun s4 fl m C L H' hn back _ sm res => ?_
  exact ⟨m, hn, fun h' hs => ⟨.ref L, H', back h' hs, rfl, q _ H' sm res⟩⟩
end
end L2.LW
set_option linter.all false
set_option maxHeartbeats 4000000
namespace L2.LW
open PySem PySem.Spec PyProof.Rows
noncomputable def tyN : Ty → String
  | .bool => "bool" | .int => "int" | .str => "str" | .list => "list" | .tuple => "tuple"
noncomputable def dTy : D → String
  | .int _ => "int" | .bl _ => "bool" | .non => "NoneType" | .str _ => "str" | .tup _ => "tuple" | .lst _ => "list" | .dct _ _ _ => "dict"
theorem zsI (K : PySem.W.Frag) (d : D) (t : Ty) : PySem.W.kitOne K (.type (dTy d)) (.type (tyN t)) = some (ze4 t d) := by
  cases d <;> cases t <;> rfl
section
variable {X : Cx} {fn : Nat → List D → Option SV}
theorem zoq {pins : List (Addr × Obj)} {σ : St} {H : Hp} {s : Shared} {W : Addr → Prop} {A : Around} {E Q : Value → Shared → Prop} {d : D} {x : V} {u : Value} {t : Ty} (I : Inv X pins σ H s) (h : Sees X.K W H d x) (r : RelV x u)
    (q : ∀ tk, Q (.bool (ze4 t d)) { s with toks := tk }) : wpAny (model X.prog X.w) A (call (.builtin "isinstance") [u, .type (tyN t)]) Q E s := by
  have e := zsI X.K d t
  cases d with
  | int i => cases h.int; obtain ⟨tk, rfl⟩ := r; exact PySem.W.kia_one PySem.W.kitx_int I.kIn True.intro e (fun z => nomatch z) q
  | bl b => cases h.bl; cases r; exact PySem.W.kia_one PySem.W.kitx_bool I.kIn True.intro e (fun z => nomatch z) q
  | non => cases h.non; cases r; exact PySem.W.kia_one PySem.W.kitx_none I.kIn True.intro e (fun z => nomatch z) q
  | str y => cases h.str; obtain ⟨tk, rfl⟩ := r; exact PySem.W.kia_one PySem.W.kitx_str I.kIn True.intro e (fun z => nomatch z) q
  | tup l =>
    obtain ⟨a, xs, rfl, hq, _⟩ := h.tup
    cases r
    obtain ⟨its, rv, ⟨o, ho, hc, n, hd⟩, hz⟩ := I.tuple hq
    exact PySem.W.kia_one PySem.W.kitx_tuple I.kIn ⟨o, ho, hc⟩ e (fun z => nomatch z) q
  | lst l =>
    obtain ⟨a, xs, rfl, hq, _⟩ := h.lst
    cases r
    obtain ⟨its, rv, ⟨o, n, ho, hc, _, hd⟩, hz⟩ := I.list hq
    exact PySem.W.kia_one PySem.W.kitx_list I.kIn ⟨o, ho, hc⟩ e (fun z => nomatch z) q
  | dct b ks vs =>
    cases b with
    | false =>
      obtain ⟨a, ns, ys, rfl, _, hH, _⟩ := h.dK
      cases r
      obtain ⟨_, _, vs, _, ob, _, _, h1, h2, _⟩ := zlh I.hok (.inl hH)
      exact PySem.W.kia_one PySem.W.kitx_dict I.kIn ⟨ob, h1, h2.1⟩ e (fun z => nomatch z) q
    | true =>
      obtain ⟨a, ns, ys, rfl, _, hH, _⟩ := h.dT
      cases r
      obtain ⟨_, _, xs, _, ob, _, _, h1, h2, _⟩ := zli I.hok (.inl hH)
      exact PySem.W.kia_one PySem.W.kitx_dict I.kIn ⟨ob, h1, h2.1⟩ e (fun z => nomatch z) q
theorem zqL (t : Ty) : CallR X (.builtin "isinstance") (fun xs H Q => ∃ x, xs = [x, .ty (tyN t)] ∧ VR X.K (zaj (.inst t)) [x] H Q) := by
  rintro pins s σ H xs us Q I rv ⟨x, rfl, W, ds, r, wf, hs, hf, q⟩
  obtain ⟨d, rfl, h1⟩ := pr1 hs
  replace hf : zsp t [d] = some r := hf
  cases hf
  obtain ⟨u, w', rfl, r1, r2⟩ := zqc rv
  cases r2
  exact zoq I h1 r1 fun tk => ⟨.bl _, H, I.tok tk, rfl, q _ H (.refl H) (.val (.bl _))⟩
theorem zkz {a : Expr} {ca : E} {t : Ty} {y : Str} {p p2 pos : Pos} (hg : Gl X "isinstance") (hm : X.mg "isinstance" = Option.none) (hg2 : Gl X y) (hm2 : X.mg y = Option.none) (hv : bootBuiltins y = some (.type (tyN t))) (ha : IE X fn a ca)
    (hn : y ≠ "__name__" := by decide) (hdb : (y == ("__debug__" : Str)) = false := by decide)
    (h1 : starEach [a, .Name y p2] X.env = (false, eval a X.env) :: starEach [.Name y p2] X.env := by rfl) (h2 : starEach [.Name y p2] X.env = (false, eval (.Name y p2) X.env) :: starEach [] X.env := by rfl)
    (hpl : (backTo pos (starEach [.Name y p2] X.env)).any (·.1) = false := by rfl) :
    IE X fn (.Call (.Name "isinstance" p) [a, .Name y p2] [] pos) (.prim (.inst t) (.cons ca .nil)) :=
  .mk <| (zgZ (zqL t) hg hm PyProof.Rows.boot_isinstance (zcB ha.v (zcB (zp3 hg2 hm2 hv (v := .ty (tyN t)) rfl hn hdb) zgt h2) h1) (by decide) (by decide) h1 hpl).imp fun σ H Q zz3 => by
    obtain ⟨W, ρ, r, hR, he, q⟩ := zz3
    simp only [zbW, zbA, zbh, jo1, jo2] at he
    obtain ⟨rs, ⟨r1, e1, rs', e3, rfl⟩, e4⟩ := he
    cases e3
    exact ⟨W, ρ, r1, hR, e1, fun v1 H1 s1 f1 => ⟨v1, rfl, zfb hR s1 (.cons f1 .nil) e4 q⟩⟩
theorem zhh {K : PySem.W.Frag} {W : Addr → Prop} {H : Hp} {d : D} {v : V} (h : Sees K W H d v) : decide (v = .non) = ze6 d := by
  cases d with
  | int i => cases h.int; rfl
  | bl i => cases h.bl; rfl
  | str i => cases h.str; rfl
  | non => cases h.non; rfl
  | tup l => obtain ⟨a, xs, rfl, _⟩ := h.tup; rfl
  | lst l => obtain ⟨a, xs, rfl, _⟩ := h.lst; rfl
  | dct b ks vs =>
    cases b with
    | false => obtain ⟨a, ns, ys, rfl, _⟩ := h.dK; rfl
    | true => obtain ⟨a, ns, ys, rfl, _⟩ := h.dT; rfl
theorem zsJ {a : Expr} {ca : E} {j : Nat} {p pos : Pos} (ha : IE X fn a ca) : IE X fn (.Compare a [.Is] [.Constant .none j p] pos) (.prim .isN (.cons ca .nil)) :=
  .mk <| (zpp (zpo ha.v)).imp fun σ H Q zz3 => by
    obtain ⟨W, ρ, r, hR, he, q⟩ := zz3
    simp only [zbW, zbA, zbh, jo1, jo2] at he
    obtain ⟨rs, ⟨r1, e1, rs', e3, rfl⟩, e4⟩ := he
    cases e3; cases e4
    refine ⟨W, ρ, r1, hR, e1, fun v1 H1 s1 f1 => ?_⟩
    show Q (.bl (decide (v1 = .non))) H1
    rw [zhh f1.sees]
    exact q _ H1 s1 (.val (.bl _))
theorem zsK {a : Expr} {ca : E} {j : Nat} {p pos : Pos} (ha : IE X fn a ca) : IE X fn (.Compare a [.IsNot] [.Constant .none j p] pos) (.prim .notN (.cons ca .nil)) :=
  .mk <| (zpp (zlW ha.v)).imp fun σ H Q zz3 => by
    obtain ⟨W, ρ, r, hR, he, q⟩ := zz3
    simp only [zbW, zbA, zbh, jo1, jo2] at he
    obtain ⟨rs, ⟨r1, e1, rs', e3, rfl⟩, e4⟩ := he
    cases e3; cases e4
    refine ⟨W, ρ, r1, hR, e1, fun v1 H1 s1 f1 => ?_⟩
    show Q (.bl (!decide (v1 = .non))) H1
    rw [zhh f1.sees]
    exact q _ H1 s1 (.val (.bl _))
theorem zsL {a : Expr} {ca : E} {j : Nat} {p pos : Pos} (ha : IE X fn a ca) : IT X fn (.Compare a [.Is] [.Constant .none j p] pos) (.prim .isN (.cons ca .nil)) :=
  .mk <| (zpq (zpo ha.v)).imp fun σ H Q zz3 => by
    obtain ⟨W, ρ, k, hR, he, q⟩ := zz3
    simp only [zg4, zbA, zbh, jo1, jo2] at he
    obtain ⟨rs, ⟨r1, e1, rs', e3, rfl⟩, r2, e4, e5⟩ := he
    cases e3; cases e4; cases e5
    refine ⟨W, ρ, r1, hR, e1, fun v1 H1 s1 f1 => ⟨_, rfl, ?_⟩⟩
    rw [zhh f1.sees]
    exact q H1 s1
theorem zmK {a : Expr} {ca : E} {j : Nat} {p pos : Pos} (ha : IE X fn a ca) : IT X fn (.Compare a [.IsNot] [.Constant .none j p] pos) (.prim .notN (.cons ca .nil)) :=
  .mk <| (zpq (zlW ha.v)).imp fun σ H Q zz3 => by
    obtain ⟨W, ρ, k, hR, he, q⟩ := zz3
    simp only [zg4, zbA, zbh, jo1, jo2] at he
    obtain ⟨rs, ⟨r1, e1, rs', e3, rfl⟩, r2, e4, e5⟩ := he
    cases e3; cases e4; cases e5
    refine ⟨W, ρ, r1, hR, e1, fun v1 H1 s1 f1 => ⟨_, rfl, ?_⟩⟩
    rw [zhh f1.sees]
    exact q H1 s1
theorem zgA (l : List Int) : (zlj l).Perm l := List.mergeSort_perm _ _
theorem zf9 (l : List Int) : (zlj l).Pairwise (· ≤ ·) := by
  have h := List.pairwise_mergeSort (le := fun (a b : Int) => decide (a ≤ b)) (fun a b c h1 h2 => by simp at *; omega) (fun a b => by simp; omega) l
  exact h.imp fun h => by simpa using h
theorem zln {ds : List D} {ns : List Int} {pins : List (Addr × Obj)} {s : Shared} {σ : St} {H : Hp} {xs : List V} {us : List Value} {Q : VK} (I : Inv X pins σ H s) (rv : Vals xs us)
    {W : Addr → Prop} {l : List D} (hs : Paired (Sees X.K W H) [.lst l] xs) (e1 : ints? l = some ns) (h64 : ns.length < 64) (q : ∀ v H', Same H H' → Res X.K W H H' (.obj true (.lst ((zlj ns).map .int))) v → Q v H') :
    wpAny (model X.prog X.w) X.A (call (.builtin "sorted") us) (EP X pins σ Q) X.xe s := by
  cases hs with
  | cons h1 t =>
    cases t
    obtain ⟨p, ys, rfl, hp, rp⟩ := h1.lst
    have ey := rp.ofInts e1
    subst ey
    obtain ⟨u, rfl, ru⟩ := zf3 rv
    cases ru
    obtain ⟨its, rv', pl, hz⟩ := I.list hp
    have hi := zbR rv'
    have hlen := rv'.length
    rw [List.length_map] at hlen
    refine sorted_ints pl.isList hi (by omega) fun out ns' a1 a2 a3 => ?_
    have en : ns' = zlj ns := PySem.W.ksm_same (a2.trans (zgA ns).symm) a3 (zf9 ns)
    subst en
    obtain ⟨e, he⟩ := sortedAll_at s.heap its out
    have hl2 := (zgA ns).length_eq
    have fr : H (s.heap.objs.size + 1) = Option.none := I.hok.fresh (Nat.le_succ _)
    refine ⟨.ref (s.heap.objs.size + 1), upd H (s.heap.objs.size + 1) (.lst ((zlj ns).map V.int)), I.laid (t' := s.toks) (fun _ _ => sortedAll_old) (Nat.le_succ _) ⟨?_, out.toList, e, ze3 a1, ?_⟩, rfl, q _ _ (za1 fr _) (zed fr (.ints _))⟩
    · rw [List.length_map]; exact Nat.le_of_lt (zcC (by omega))
    · simpa [seqObj] using he
theorem zgB {K : PySem.W.Frag} {W : Addr → Prop} {H : Hp} : ∀ {ds : List D} {xs : List V} {bs : List Bool}, Reps K W H ds xs → bools? ds = some bs → xs = bs.map V.bl
  | _, _, bs, .nil, e => by simp [bools?] at e; subst e; rfl
  | _, _, bs, .cons h t, e => by
    cases h with
    | bl i =>
      simp only [bools?, jo2] at e
      obtain ⟨ms, e1, rfl⟩ := e
      rw [zgB t e1]; rfl
    | _ => simp [bools?] at e
theorem zgC : ∀ {bs : List Bool} {us : List Value}, Vals (bs.map V.bl) us → us = bs.map Value.bool
  | [], us, r => by cases r; rfl
  | b :: bs, us, r => by
    cases r with
    | cons h t => cases h; rw [zgC t]; rfl
theorem zmL (bs : List Bool) : ((List.range bs.length).all fun i => bs.getD i true) = bs.all id := by
  induction bs with
  | nil => rfl
  | cons b r ih =>
    rw [List.length_cons, List.range_succ_eq_map, List.all_cons, List.all_map, List.all_cons]
    simp only [Function.comp_def, List.getD_cons_succ, List.getD_cons_zero]
    rw [ih]; rfl
theorem zpB (hc : X.calm = true) : CallR X (.builtin "all") (VR X.K (zaj .all)) := by
  rintro pins s σ H xs us Q I rv ⟨W, ds, r, wf, hs, hf, q⟩
  replace hf : pAll ds = some r := hf
  unfold pAll at hf
  split at hf
  · rename_i l
    rw [jo1] at hf
    obtain ⟨bs, e1, hf⟩ := hf
    cases hf
    cases hs with
    | cons h1 t =>
      cases t
      obtain ⟨p, ys, rfl, hp, rp⟩ := h1.lst
      have ey := zgB rp e1
      subst ey
      obtain ⟨u, rfl, ru⟩ := zf3 rv
      cases ru
      obtain ⟨its, rv', pl, hz⟩ := I.list hp
      have ei := zgC rv'
      subst ei
      obtain ⟨o, n, ho, hcl, hdi, hda⟩ := id pl
      have hne : p ≠ s.heap.objs.size := Nat.ne_of_lt (Heap.lt_size ho)
      refine call_all_walk (wpAny_pyIter_list pl.isList ?_)
      refine ⟨s.heap.objs.size, _, _, _, _, _, fun i => bs.getD i true, rfl, Walks.list (A := X.A.in1) (I.ok.hd hc) s.heap.objs.size p hne (bs.map Value.bool).toArray, ⟨⟨_, Heap.get?_push_size _ rfl, rfl, rfl⟩, ⟨o, Heap.get?_push_of_some _ ho, hcl, n, hda⟩⟩, ?_, fun h' tk hk => ?_⟩
      · intro i v s' Q' E' hv hQ
        have hv : (bs.map Value.bool).toArray[i]? = some v := hv
        rw [List.getElem?_toArray, List.getElem?_map, jo2] at hv
        obtain ⟨b, e2, rfl⟩ := hv
        have e3 : bs.getD i true = b := by rw [List.getD_eq_getElem?_getD, e2]; rfl
        have hQ : Q' (bs.getD i true) s' := hQ
        rw [e3] at hQ
        exact wpAny_truthy_bool hQ
      · rw [List.size_toArray, List.length_map, zmL]
        refine ⟨.bl _, H, I.kept (t' := tk) (fun b o' e => ?_), rfl, q _ H (.refl H) (.val (.bl _))⟩
        exact hk b o' (by simpa using Nat.ne_of_lt (Heap.lt_size e)) (Heap.get?_push_of_some _ e)
  · cases hf
theorem zor (xs : List V) (k : Int) (hk : 0 ≤ k) : cutV xs Option.none (some k) = xs.take k.toNat := by
  obtain ⟨n, rfl⟩ := Int.eq_ofNat_of_zero_le hk
  unfold cutV
  rw [HT.sIx_none, HT.sIx_nat, List.drop_zero, Nat.sub_zero, Int.toNat_natCast]
  rcases Nat.le_total n xs.length with h | h
  · rw [Nat.min_eq_left h]
  · rw [Nat.min_eq_right h, List.take_of_length_le (Nat.le_refl _), List.take_of_length_le h]
theorem zqM {a b : Expr} {ca cb : E} {p pos : Pos} (ha : IE X fn a ca) (hb : IE X fn b cb) : IE X fn (.Subscript a (.Slice Option.none (some b) Option.none p) pos) (.prim .cutTo (.cons ca (.cons cb .nil))) :=
  .mk <| (zn6 zqi ha.v zqe (zqf hb.v)).imp fun σ H Q zz3 => by
    obtain ⟨W, ρ, r, hR, he, q⟩ := zz3
    simp only [zbW, zbA, zbh, jo1, jo2] at he
    obtain ⟨rs, ⟨r1, e1, rs', ⟨r2, e2, rs'', e3, rfl⟩, rfl⟩, e4⟩ := he
    cases e3
    refine ⟨W, ρ, r1, hR, e1, fun v1 H1 s1 f1 => ⟨W, ρ, r2, hR.same s1, e2, fun v2 H2 s2 f2 => ?_⟩⟩
    replace e4 : zkl [seeD r1, seeD r2] = some r := e4
    unfold zkl at e4
    split at e4
    · rename_i l k z
      have h1 := (f1.same s2).sees
      have h2 := f2.sees
      injection z with z1 z2
      injection z2 with z2 _
      rw [z1] at h1
      rw [z2] at h2
      split at e4
      · rename_i hk
        cases e4
        obtain ⟨p, xs, rfl, hp, rp⟩ := h1.lst
        cases h2.int
        refine ⟨k, rfl, p, xs, rfl, hp, fun p' hp' => ?_⟩
        rw [zor xs k hk]
        have s12 := s1.trans s2
        exact q _ _ (s12.trans (za1 hp' _)) ((zed hp' (rp.take _)).back s12)
      · cases e4
    · cases e4
theorem zbr {scope : Scope} {env : PySem.Env} {y : Str} (h : scope.names.lookup y = some .free) : Vis (relabel scope env) y := by
  unfold Vis relabel
  have key : ∀ (names : List (Str × NameKind)), names.lookup y = some .free →
      (names.map fun (z : Str × NameKind) => match z with | (n, k) => if (k == NameKind.free && env.scope.kind == .function && env.kindOf n == some .cell) = true then (n, NameKind.cell) else (n, k)).lookup y = some .cell ∨
      (names.map fun (z : Str × NameKind) => match z with | (n, k) => if (k == NameKind.free && env.scope.kind == .function && env.kindOf n == some .cell) = true then (n, NameKind.cell) else (n, k)).lookup y = some .free := by
    intro names
    induction names with
    | nil => intro h; cases h
    | cons z r ih =>
      obtain ⟨n, j⟩ := z
      intro h
      rw [List.lookup_cons] at h
      rw [List.map_cons, List.lookup_cons]
      by_cases hc : (j == NameKind.free && env.scope.kind == .function && env.kindOf n == some .cell) = true
      · simp only [hc, if_true]
        cases e : y == n with
        | true => exact .inl rfl
        | false => rw [e] at h; exact ih h
      · simp only [hc, Bool.false_eq_true, if_false]
        cases e : y == n with
        | true => rw [e] at h; exact .inr h
        | false => rw [e] at h; exact ih h
  exact .inr (key scope.names h)
theorem zbj {scope : Scope} {env : PySem.Env} {y : Str} (h : scope.names.lookup y = some .local) : Vis (relabel scope env) y := .inl (lookup_relabel_local h)
theorem zhi {scope : Scope} {env : PySem.Env} {y : Str} (h : scope.names.lookup y = some .globalImplicit) : (relabel scope env).names.lookup y = some .globalImplicit := by
  unfold relabel
  have key : ∀ (names : List (Str × NameKind)), names.lookup y = some .globalImplicit →
      (names.map fun (z : Str × NameKind) => match z with | (n, k) => if (k == NameKind.free && env.scope.kind == .function && env.kindOf n == some .cell) = true then (n, NameKind.cell) else (n, k)).lookup y = some .globalImplicit := by
    intro names
    induction names with
    | nil => intro h; cases h
    | cons z r ih =>
      obtain ⟨n, j⟩ := z
      intro h
      rw [List.lookup_cons] at h
      rw [List.map_cons, List.lookup_cons]
      by_cases hc : (j == NameKind.free && env.scope.kind == .function && env.kindOf n == some .cell) = true
      · simp only [hc, if_true]
        cases e : y == n with
        | true =>
          rw [e] at h
          have h : j = .globalImplicit := Option.some.inj h
          rw [h] at hc
          simp at hc
        | false => rw [e] at h; exact ih h
      · simp only [hc, Bool.false_eq_true, if_false]
        cases e : y == n with
        | true => rw [e] at h; exact h
        | false => rw [e] at h; exact ih h
  exact key scope.names h
noncomputable def zmM (sc : Scope) (N : List Str) (scope : Scope) (x : Str) : Bool :=
  decide (scope.kind = .function) && (decide (scope.names.lookup x = some .local) || decide (scope.names.lookup x = some .cell)) && scope.names.all (fun y => !decide (y.2 = .local) || decide (scope.names.lookup y.1 = some .local)) &&
  decide (scope.names.filter (fun y => y.2 == .cell) = if scope.names.lookup x = some .cell then [(x, .cell)] else []) &&
  scope.names.all (fun y => !decide (y.2 = .free) || (decide (sc.names.lookup y.1 = some .cell) || decide (sc.names.lookup y.1 = some .free))) && N.all (fun y => !decide (scope.names.lookup y = some .local) || decide (y = x)) &&
  decide (scope.names.lookup ("" : Str) = Option.none) && decide ((x :: hide x N).Nodup)
theorem zdG {scope sc : Scope} {N : List Str} {x : Str} (hs : X.env.scope = sc) (hN : X.N = N) (h : zmM sc N scope x = true) : CompSc X scope x := by
  subst hs hN
  simp only [zmM, Bool.and_eq_true, decide_eq_true_eq, List.all_eq_true, Bool.or_eq_true, Bool.not_eq_true', decide_eq_false_iff_not] at h
  obtain ⟨⟨⟨⟨⟨⟨⟨h1, h2⟩, h3⟩, h4⟩, h5⟩, h6⟩, h7⟩, h8⟩ := h
  exact ⟨h1, h2, fun y hy e => (h3 y hy).resolve_left fun z => z e, h4, fun y hy e => (h5 y hy).resolve_left fun z => z e, fun y hy e => (h6 y hy).resolve_left fun z => z e, h7, h8⟩
end
end L2.LW
set_option linter.all false
set_option maxHeartbeats 4000000
namespace L2.LW
open PySem PySem.Spec PyProof.Rows
section
variable {Pg : Program} {w : World} {K : PySem.W.Frag} {mg : Str → Option Value} {base : Heap} {f : Addr} {fd : FuncData} {ps : List Str} {P : Nat → Option Fn} {fuel i n k : Nat}
theorem zkA {io : List Nat} (h : ∀ ds, zas P fuel n i ds = Option.none) : FnOk Pg w K mg base CX0 k f fd ps (spA K (zas P fuel n) i io) := by
  have no : ∀ vs H Q E, ¬ spA K (zas P fuel n) i io vs H Q E := fun vs H Q E zz4 => by
    obtain ⟨W, ds, r, outs, _, _, e, _⟩ := zz4
    rw [h ds] at e; cases e
  exact ⟨fun vs H Q E z => absurd z (no vs H Q E), fun A outer s H args us vs Q E _ _ _ _ z => absurd z (no vs H Q E)⟩
theorem zqN {io : List Nat} : FnOk Pg w K mg base CX0 k f fd ps (spA K (zas P fuel 0) i io) := zkA fun _ => rfl
theorem zaF {io : List Nat} (h : P i = Option.none) : FnOk Pg w K mg base CX0 k f fd ps (spA K (zas P fuel (n + 1)) i io) := zkA fun ds => by rw [zas, h]; rfl
theorem zsM {H : Hp} {a : Addr} {ns : List Int} {E : XK} (h : zaX P fuel n i [.lst (ns.map D.int)] = some (.val (.bl true))) (hS : SqL K H a (ns.map V.int)) : spA K (zas P fuel n) i [] [.ref a] H (fun v _ => v = .bl true) E := by
  refine ⟨fun _ => False, [.lst (ns.map D.int)], .val (.bl true), [], fun _ z => z.elim, (Reps.cons (.lst ?_ (.ints ns)) .nil).get', zkr h, fun v H' _ _ r => ?_⟩
  · rcases hS with hS | hS
    · exact .inl ⟨fun z => z, hS⟩
    · exact .inr hS
  · cases r with
    | val r => cases r; rfl
end
end L2.LW
set_option linter.all false
set_option maxHeartbeats 4000000
namespace L2.LW
open PySem PySem.Spec PyProof.Rows
noncomputable def zsN (tk tv : TE) : TE := fun σ H Q => ∀ p, H p = Option.none → tk σ (upd H p (.dT [])) fun x H1 => tv σ H1 fun y H2 => H2 p = some (.dT []) ∧ ∃ b ks, x = .ref b ∧ H2 b = some (.tup (ks.map kV)) ∧ Q (.ref p) (upd H2 p (.dT [(ks, y)]))
theorem zos {X : Cx} {pos : Pos} {k v : Expr} {tk tv : TE} (hu : X.A.units + 64 < cLine) (hk : PE X k tk) (hv : PE X v tv) : PE X (.Dict [some k] [v] pos) (zsN tk tv) := by
  intro pins s σ H Q I q
  have hn := I.hok.fresh (Nat.le_refl s.heap.objs.size)
  have I1 := I.laid (a := s.heap.objs.size) (o := .dT []) (h' := s.heap.push { cls := .type "dict", data := .dict #[] }) (t' := s.toks) (fun _ _ q => Heap.get?_push_of_some _ q) (Nat.le_refl _) (zkk s.heap I.big)
  refine wpAny_Dict_any rfl rfl (by simp) (by simp) (pairTrees_cons_walk (thn (hk pins _ σ _ _ I1 (q _ hn)) fun u s1 ⟨x, H1, I2, rx, q1⟩ => thn (hv pins s1 σ H1 _ I2 q1) fun w2 s2 ⟨y, H2, I3, ry, e, b, ks, ex, eb, q2⟩ => pairTrees_nil_walk ?_))
  subst ex
  cases rx
  unfold storeAll
  rw [List.forIn_cons]
  obtain ⟨z, hd, xs, rel, dd⟩ := zmc I3.hok e
  cases rel
  refine wpAny_bind (wpAny_bind (wpAny_dictSet_heap (hsz := by simp) (knd := tupleKind (zav X.prog X.w)) (show X.A.units < cLine by omega) (zgu I3.hok eb) dd fun h' dd' hs => wpAny_pure ?_))
  refine wpAny_pure ⟨.ref s.heap.objs.size, _, ?_, rfl, q2⟩
  obtain ⟨q, es, ep, hq, h2, h3, h4, _, h5⟩ := dd'
  refine zg3 I3 (by rw [e]; exact True.intro) hs ⟨q, hq⟩ ⟨by simp [sizeLine_eq], hd, _, ((KT.put (H := H2) (kvs := []) (xs := []) .nil ks eb ry)).keeps fun c ys ec => ?_, q, es, ep, hq, h2, h3, h4, h5⟩
  rw [zaS (zpZ ec e (fun z => nomatch z))]
  exact ec
section
variable {X : Cx} {fn : Nat → List D → Option SV} {fa : Nat → List D → Option Ans} {fuel : Nat} {a b c e : Expr} {ca cb cc ce : E} {es : List Expr} {cs : Es} {pos p : Pos} {x : Str} {st : Stmt} {sts : List Stmt} {s : S} {ss s1 s2 : Ss}
theorem zsO (t : Bool) : IE X fn (.Dict [] [] pos) (.dnew t) := by
  cases t with
  | false =>
    refine .mk (zn8.imp fun σ H Q ⟨W, ρ, r, hR, he, q⟩ => ?_)
    simp only [zmn] at he; cases he
    exact fun p hp => q _ _ (za1 hp _) (.new hp zbb (.dK (ns := []) (ys := []) rfl .nil))
  | true =>
    refine .mk (zn9.imp fun σ H Q ⟨W, ρ, r, hR, he, q⟩ => ?_)
    simp only [zmn] at he; cases he
    exact fun p hp => q _ _ (za1 hp _) (.new hp zbb (.dT (ns := []) (ys := []) rfl .nil))
theorem zot {H H1 : Hp} {p : Addr} {o o' : HO} (hp : H p = Option.none) (s : Same (upd H p o) H1) : Same H (upd H1 p o') := fun b u q => by
  rw [zaS (zbu q hp)]
  exact s b u (by rw [zaS (zbu q hp)]; exact q)
theorem zpC (hu : X.A.units + 64 < cLine) (ha : IE X fn a ca) (hb : IE X fn b cb) : IE X fn (.Dict [some a] [b] pos) (.done true ca cb) :=
  .mk <| (zos hu ha.v hb.v).imp fun σ H Q zz3 => by
    obtain ⟨W, ρ, r, hR, he, q⟩ := zz3
    simp only [zqq, jo1] at he
    obtain ⟨x, e1, y, e2, da, e3, db, e4, e5⟩ := he
    split at e5
    · rename_i hk
      cases e5
      intro p hp
      have s0 := za1 hp (.dT [])
      have hR0 := hR.add s0 hp zbb
      refine ⟨_, ρ, x, hR0, e1, fun v1 H1 s1 f1 => ⟨_, ρ, y, hR0.same s1, e2, fun v2 H2 s2 f2 => ⟨s2 _ _ (s1 _ _ zbb), ?_⟩⟩⟩
      have r1 := (f1.same s2).toD e3
      have r2 := f2.toD e4
      cases da with
      | tup l =>
        obtain ⟨ms, hms⟩ : ∃ ms, ints? l = some ms := by simp only [zbH, Option.isSome_iff_exists] at hk; exact hk
        cases r1 with
        | tup h1 rp =>
          have z1 := rp.ofInts hms
          have z2 := zdp hms
          subst z1 z2
          refine ⟨_, ms.map Sum.inl, rfl, by rw [zee]; exact h1, q _ _ (zot hp (s1.trans s2)) (.new hp zbb (.dT (ns := [ms]) (ys := [v2]) rfl (.cons ?_ .nil)))⟩
          have e2p := s2 _ _ (s1 _ _ (zbb (H := H) (a := p) (o := .dT [])))
          refine r2.ext ⟨fun b o q n => ?_, fun b ys q => ?_, fun b o u q => ?_, fun b w => .inl w⟩
          · rw [zaS (fun z => n (.inr z))]; exact q
          · rw [zaS (fun z => by rw [z, e2p] at q; cases q)]; exact q
          · rw [zaS (fun z => by rw [z, e2p] at q; cases q)]; exact q
      | _ => simp [zbH] at hk
    · cases e5
theorem zmN (i : Int) (v : V) : ∀ {ns : List Int} {ys : List V}, ns.length = ys.length → (dKof ns ys).map (fun kv => if kv.1 = Sum.inl i then (kv.1, v) else kv) = dKof ns (List.zipWith (fun n y => if n = i then v else y) ns ys)
  | [], [], _ => rfl
  | n :: ns, y :: ys, h => by
    have ih := zmN i v (ns := ns) (ys := ys) (by simpa using h)
    show (if (Sum.inl n : Key) = Sum.inl i then ((Sum.inl n : Key), v) else (Sum.inl n, y)) :: (dKof ns ys).map _ = (Sum.inl n, if n = i then v else y) :: dKof ns _
    rw [ih]
    by_cases e : n = i <;> simp [e]
theorem zmO (i : List Int) (v : V) : ∀ {ns : List (List Int)} {ys : List V}, ns.length = ys.length → (dTof ns ys).map (fun kv => if kv.1 = i.map Sum.inl then (kv.1, v) else kv) = dTof ns (List.zipWith (fun n y => if n = i then v else y) ns ys)
  | [], [], _ => rfl
  | n :: ns, y :: ys, h => by
    have ih := zmO i v (ns := ns) (ys := ys) (by simpa using h)
    show (if (n.map Sum.inl : List Key) = i.map Sum.inl then ((n.map Sum.inl : List Key), v) else (n.map Sum.inl, y)) :: (dTof ns ys).map _ = (n.map Sum.inl, if n = i then v else y) :: dTof ns _
    rw [ih]
    by_cases e : n = i
    · simp [e]
    · have : ¬ ((n.map Sum.inl : List Key) = i.map Sum.inl) := fun z => e (zkm z)
      simp [e, this]
theorem zii {K : PySem.W.Frag} {W : Addr → Prop} {H : Hp} {d : D} {v : V} (rv : Rep K W H d v) (i : Int) : ∀ {ns : List Int} {vs : List D} {ys : List V}, Reps K W H vs ys → Reps K W H (List.zipWith (fun k' v' => if eqD k' (.int i) then d else v') (ns.map D.int) vs) (List.zipWith (fun n y => if n = i then v else y) ns ys)
  | [], _, _, _ => by simp; exact .nil
  | n :: ns, _, _, .nil => by simp; exact .nil
  | n :: ns, _, _, .cons h t => by
    have ih := zii rv i (ns := ns) t
    simp only [List.map_cons, List.zipWith_cons_cons]
    refine .cons ?_ ih
    by_cases e : n = i
    · simp [e, eqD]; exact rv
    · simp [e, eqD]; exact h
theorem zij {K : PySem.W.Frag} {W : Addr → Prop} {H : Hp} {d : D} {v : V} (rv : Rep K W H d v) (i : List Int) : ∀ {ns : List (List Int)} {vs : List D} {ys : List V}, Reps K W H vs ys → Reps K W H (List.zipWith (fun k' v' => if eqD k' (kT i) then d else v') (ns.map kT) vs) (List.zipWith (fun n y => if n = i then v else y) ns ys)
  | [], _, _, _ => by simp; exact .nil
  | n :: ns, _, _, .nil => by simp; exact .nil
  | n :: ns, _, _, .cons h t => by
    have ih := zij rv i (ns := ns) t
    simp only [List.map_cons, List.zipWith_cons_cons]
    refine .cons ?_ ih
    have : eqD (kT n) (kT i) = decide (n = i) := by simp [kT, eqD, zdA]
    rw [this]
    by_cases e : n = i
    · simp [e]; exact rv
    · simp [e]; exact h
theorem zsP {K : PySem.W.Frag} {W : Addr → Prop} {H : Hp} {ns : List Int} {ys : List V} {vs : List D} {d : D} {v : V} (h : ns.length = ys.length) (r : Reps K W H vs ys) (i : Int) (rv : Rep K W H d v) :
    ORep K W H (dput false (ns.map D.int) vs (.int i) d) (.dK (putK (dKof ns ys) (.inl i) v)) := by
  unfold putK dput
  rw [zeP, zjr h]
  split
  · rw [zmN i v h]
    exact .dK (by simp [h]) (zii rv i r)
  · have e : dKof ns ys ++ [(Sum.inl i, v)] = dKof (ns ++ [i]) (ys ++ [v]) := by
      unfold dKof
      rw [List.map_append, List.zip_append (by simpa using h)]
      rfl
    rw [e]
    have := ORep.dK (K := K) (W := W) (H := H) (ns := ns ++ [i]) (ys := ys ++ [v]) (by simp [h]) (r.append (.cons rv .nil))
    rw [List.map_append] at this
    exact this
theorem zpD {K : PySem.W.Frag} {W : Addr → Prop} {H : Hp} {ns : List (List Int)} {ys : List V} {vs : List D} {d : D} {v : V} (h : ns.length = ys.length) (r : Reps K W H vs ys) (i : List Int) (rv : Rep K W H d v) :
    ORep K W H (dput true (ns.map kT) vs (kT i) d) (.dT (putK (dTof ns ys) (i.map Sum.inl) v)) := by
  unfold putK dput
  rw [zeP, zjs h]
  split
  · rw [zmO i v h]
    exact .dT (by simp [h]) (zij rv i r)
  · have e : dTof ns ys ++ [(i.map Sum.inl, v)] = dTof (ns ++ [i]) (ys ++ [v]) := by
      unfold dTof
      rw [List.map_append, List.zip_append (by simpa using h)]
      rfl
    rw [e]
    have := ORep.dT (K := K) (W := W) (H := H) (ns := ns ++ [i]) (ys := ys ++ [v]) (by simp [h]) (r.append (.cons rv .nil))
    rw [List.map_append] at this
    exact this
theorem zou {ns : List Int} {ys : List V} (h : ns.length = ys.length) : (dKof ns ys).length = ns.length := by simp [dKof, h]
theorem zhj {ns : List (List Int)} {ys : List V} (h : ns.length = ys.length) : (dTof ns ys).length = ns.length := by simp [dTof, h]
theorem zpE (i : Nat) {pos' : Pos} (hu : X.A.units + 64 < cLine) (hN : X.N[i]? = some x) (hv : Vis X.env.scope x) (ha : IE X (prj fa) a ca) (hb : IE X (prj fa) b cb) (hd : (x == ("__debug__" : Str)) = false) (hcd : (x == ("__classdict__" : Str)) = false)
    (hs : swapsWith b (some (.Subscript (.Name x p) a pos')) pos.line X.env = pure false := by rfl) : IS X (exS fa fuel (.dset i ca cb)) (.Assign [.Subscript (.Name x p) a pos'] b pos) :=
  .mk <| (zqk (by omega) (zdv hN hv hd hcd) ha.v hb.v hs).imp fun D0 σ H zz3 => by
    obtain ⟨W, ρ, y, hR, hy, q⟩ := zz3
    simp only [zmo] at hy
    split at hy
    · rename_i x h
      split at hy
      · rename_i t ks vs hc
        simp only [jo1] at hy
        obtain ⟨r, e1, d, e2, r', e3, d', e4, e5⟩ := hy
        split at e5
        · rename_i hk
          cases e5
          rw [Bool.and_eq_true, decide_eq_true_iff] at hk
          refine ⟨W, ρ, r, hR, e1, fun v H1 s1 f1 => ?_⟩
          have hR1 := hR.same s1
          obtain ⟨a, o, h1, h2, h3, h4⟩ := hR1.own i _ _ h hc
          refine ⟨_, h1, W, ρ, r', hR1, e3, fun v2 H2 s2 f2 => ?_⟩
          have rv := (f1.same s2).toD e2
          have rk := f2.toD e4
          have le := ze9
          cases h4 with
          | dK l rp =>
            rename_i ns ys
            cases d' with
            | int n =>
              cases rk
              refine ⟨a, _, rfl, DPut.k (k := .inl n) (s2 _ _ h3) (by rw [zou l]; simp at hk; omega), q W σ _ (zeR hR h hc h1 (s1.trans s2) (s2 _ _ h3) ⟨fun _ z => (nomatch z), fun _ _ z => (nomatch z)⟩ (zsP l (rp.ext (.same s2)) n rv))⟩
            | _ => simp [zbH] at hk
          | dT l rp =>
            rename_i ns ys
            cases d' with
            | tup kl =>
              obtain ⟨ms, hms⟩ : ∃ ms, ints? kl = some ms := by have := hk.1; simp only [zbH, Option.isSome_iff_exists] at this; exact this
              cases rk with
              | tup hb rpb =>
              have z1 := rpb.ofInts hms
              have z2 := zdp hms
              subst z1 z2
              refine ⟨a, _, rfl, DPut.t (k := ms.map Sum.inl) (s2 _ _ h3) (by rw [hb, zee]) (by rw [zhj l]; simp at hk; omega), q W σ _ (zeR hR h hc h1 (s1.trans s2) (s2 _ _ h3) ⟨fun _ z => (nomatch z), fun _ _ z => (nomatch z)⟩ (zpD l (rp.ext (.same s2)) ms rv))⟩
            | _ => simp [zbH] at hk
        · cases e5
      · cases hy
    · cases hy
end
end L2.LW
set_option linter.all false
set_option maxHeartbeats 4000000
namespace L2.LW
open PySem PySem.Spec PyProof.Rows
inductive ArgOk (K : PySem.W.Frag) (ρ : LW.Env) (σ : St) (H H' : Hp) : AV → V → Prop where
  | e {d : D} {v : V} (h : ∀ W, Rep K W H' d v) : ArgOk K ρ σ H H' (.e d) v
  | l {ds : List D} {a : Addr} {xs : List V} (e : SqL K H' a xs ∧ Rd H' a (.lst xs) ∨ KLst K a xs) (r : ∀ W, Reps K W H' ds xs) : ArgOk K ρ σ H H' (.l ds) (.ref a)
  | s {i : Nat} {x : SV} {d : D} {a : Addr} (h : ρ[i]? = some (some x)) (c : x.cell = some d) (k : zf7 d = true) (e : σ[i]? = some (some (.ref a))) : ArgOk K ρ σ H H' (.s i d) (.ref a)
  | n {t : Bool} {a : Addr} {o : HO} (h : H a = Option.none) (e : H' a = some o) (r : ∀ W, ORep K W H' (.dct t [] []) o) : ArgOk K ρ σ H H' (.n t) (.ref a)
noncomputable def tMA (K : PySem.W.Frag) (fn : Nat → List D → Option SV) (ma : MA) : TA := fun σ H Q => ∃ W ρ xs, R K W ρ σ H ∧ evMA fn ma ρ = some xs ∧ ∀ vs H', Same H H' → Paired (ArgOk K ρ σ H H') xs vs → Q vs H'
structure IMA (X : Cx) (fn : Nat → List D → Option SV) (es : List Expr) (ma : MA) : Prop where
  h : PA X es (tMA X.K fn ma)
noncomputable def tM (K : PySem.W.Frag) (fa : Nat → List D → Option Ans) (m : M) : TE := fun σ H Q => ∃ W ρ r ρ', R K W ρ σ H ∧ evM fa m ρ = some (r, ρ') ∧ ∀ v H', SPost K W ρ σ H W ρ' σ H' → Res K W H H' r v → Q v H'
structure IM (X : Cx) (fa : Nat → List D → Option Ans) (e : Expr) (m : M) : Prop where
  h : PE X e (tM X.K fa m)
theorem ArgOk.same {K : PySem.W.Frag} {ρ : LW.Env} {σ : St} {H H' H'' : Hp} {x : AV} {v : V} (h : ArgOk K ρ σ H H' x v) (s : Same H' H'') : ArgOk K ρ σ H H'' x v := by
  cases h with
  | e h => exact .e fun W => (h W).ext (.same s)
  | l e r =>
    refine .l ?_ fun W => (r W).ext (.same s)
    rcases e with ⟨e1, e2⟩ | e
    · refine .inl ⟨s.seq e1, ?_⟩
      rcases e2 with e2 | ⟨o, e2⟩
      · exact .inl (s _ _ e2)
      · exact .inr ⟨o, s _ _ e2⟩
    · exact .inr e
  | s h c k e => exact .s h c k e
  | n h e r => exact .n h (s _ _ e) fun W => (r W).ext (.same s)
theorem ArgOk.back {K : PySem.W.Frag} {ρ : LW.Env} {σ : St} {H H' H'' : Hp} {x : AV} {v : V} (h : ArgOk K ρ σ H' H'' x v) (s : Same H H') : ArgOk K ρ σ H H'' x v := by
  cases h with
  | e h => exact .e h
  | l e r => exact .l e r
  | s h c k e => exact .s h c k e
  | n h e r => exact .n (s.free h) e r
theorem zff {K : PySem.W.Frag} {ρ : LW.Env} {σ : St} {H H' H'' : Hp} : ∀ {xs : List AV} {vs : List V}, Paired (ArgOk K ρ σ H' H'') xs vs → Same H H' → Paired (ArgOk K ρ σ H H'') xs vs
  | _, _, .nil, _ => .nil
  | _, _, .cons h t, s => .cons (h.back s) (zff t s)
section
variable {X : Cx} {fn : Nat → List D → Option SV} {fa : Nat → List D → Option Ans} {fuel : Nat} {a b c e : Expr} {ca cb cc ce : E} {es : List Expr} {cs : Es} {ma : MA} {m : M} {pos p : Pos} {x : Str} {st : Stmt} {sts sts' : List Stmt} {s : S} {ss s1 s2 : Ss}
theorem zsQ : IMA X fn [] .nil := .mk <| zgt.imp fun σ H Q zz3 => by
  obtain ⟨W, ρ, rs, hR, he, q⟩ := zz3
  simp only [zpw] at he; cases he; exact q _ H (.refl H) .nil
theorem ma_e (he : IE X fn e ce) (h : IMA X fn es ma) (hs : starEach (e :: es) X.env = (false, eval e X.env) :: starEach es X.env := by rfl) : IMA X fn (e :: es) (.e ce ma) :=
  .mk <| (zcB he.v h.h hs).imp fun σ H Q zz3 => by
    obtain ⟨W, ρ, rs, hR, hx, q⟩ := zz3
    simp only [qA_e, jo1, jo2] at hx
    obtain ⟨r, e1, av, e2, xs, e3, rfl⟩ := hx
    refine ⟨W, ρ, r, hR, e1, fun v H1 s1 f => ⟨W, ρ, xs, hR.same s1, e3, fun vs H2 s2 fs => q _ H2 (s1.trans s2) (.cons ?_ (zff fs s1))⟩⟩
    unfold avOf at e2
    split at e2
    · rename_i ds
      split at e2
      · rename_i hp
        cases e2
        cases f with
        | val f =>
          cases f with
          | lst h r =>
            refine .l ?_ fun W' => (r.plain hp).ext (.same s2)
            rcases h with ⟨_, h⟩ | h
            · refine .inl ⟨s2.seq (.inl h), ?_⟩
              rcases h with h | ⟨o, h⟩
              · exact .inl (s2 _ _ h)
              · exact .inr ⟨o, s2 _ _ h⟩
            · exact .inr h
      · cases e2
    · rename_i d _
      split at e2
      · rename_i hp
        cases e2
        cases f with
        | val f => exact .e fun W' => (f.plain hp).ext (.same s2)
      · cases e2
    · rename_i o ds
      split at e2
      · rename_i hp
        cases e2
        cases f with
        | lis h e r =>
          cases r with
          | lst r => exact .l (.inl ⟨.of (s2 _ _ e), .inl (s2 _ _ e)⟩) fun W' => (r.plain hp).ext (.same s2)
        | see h e r =>
          cases r with
          | lst r => exact .l (.inl ⟨.of (s2 _ _ e), .inl (s2 _ _ e)⟩) fun W' => (r.plain hp).ext (.same s2)
      · cases e2
    · cases e2
theorem ma_s (i : Nat) (hN : X.N[i]? = some x) (hv : Vis X.env.scope x) (h : IMA X fn es ma) (hd : (x == ("__debug__" : Str)) = false) (hcd : (x == ("__classdict__" : Str)) = false) : IMA X fn (.Name x p :: es) (.s i ma) :=
  .mk <| (zcB (zdv hN hv hd hcd) h.h rfl).imp fun σ H Q zz3 => by
    obtain ⟨W, ρ, rs, hR, hx, q⟩ := zz3
    simp only [qA_s, jo1] at hx
    obtain ⟨d, e1, e2⟩ := hx
    split at e2
    · rename_i hk
      rw [jo2] at e2
      obtain ⟨xs, e3, rfl⟩ := e2
      unfold zcD at e1
      split at e1
      · rename_i y h1
        obtain ⟨a, o, h2, _⟩ := hR.own i y d h1 e1
        exact ⟨_, h2, W, ρ, xs, hR, e3, fun vs H2 s2 fs => q _ H2 s2 (.cons (.s h1 e1 hk h2) fs)⟩
      · cases e1
    · cases e2
end
noncomputable def maIo : MA → Nat → List Nat
  | .nil, _ => []
  | .e _ r, k => maIo r (k + 1)
  | .s _ r, k => k :: maIo r (k + 1)
  | .n _ r, k => k :: maIo r (k + 1)
noncomputable def zei : MA → List Nat
  | .nil => []
  | .e _ r => zei r
  | .s i r => i :: zei r
  | .n _ r => zei r
noncomputable def zgD : MA → Nat
  | .nil => 0
  | .e _ r => zgD r
  | .s _ r => zgD r
  | .n _ r => zgD r + 1
noncomputable def ioX : List AV → Nat → List Nat
  | [], _ => []
  | .e _ :: r, k => ioX r (k + 1)
  | .l _ :: r, k => ioX r (k + 1)
  | .s _ _ :: r, k => k :: ioX r (k + 1)
  | .n _ :: r, k => k :: ioX r (k + 1)
noncomputable def slX : List AV → List Nat
  | [] => []
  | .s i _ :: r => i :: slX r
  | _ :: r => slX r
noncomputable def nwX : List AV → Nat
  | [] => 0
  | .n _ :: r => nwX r + 1
  | _ :: r => nwX r
theorem zcn {fn : Nat → List D → Option SV} {ρ : LW.Env} : ∀ {ma : MA} {xs : List AV}, evMA fn ma ρ = some xs → (∀ k, ioX xs k = maIo ma k) ∧ slX xs = zei ma ∧ nwX xs = zgD ma
  | .nil, xs, h => by simp only [zpw] at h; cases h; exact ⟨fun _ => rfl, rfl, rfl⟩
  | .e c r, xs, h => by
    simp only [qA_e, jo1, jo2] at h
    obtain ⟨x, _, av, e2, ys, e3, rfl⟩ := h
    obtain ⟨h1, h2, h3⟩ := zcn e3
    unfold avOf at e2
    split at e2
    · split at e2
      · cases e2; exact ⟨fun k => h1 (k + 1), h2, h3⟩
      · cases e2
    · split at e2
      · cases e2; exact ⟨fun k => h1 (k + 1), h2, h3⟩
      · cases e2
    · split at e2
      · cases e2; exact ⟨fun k => h1 (k + 1), h2, h3⟩
      · cases e2
    · cases e2
  | .s i r, xs, h => by
    simp only [qA_s, jo1] at h
    obtain ⟨d, _, e2⟩ := h
    split at e2
    · rw [jo2] at e2
      obtain ⟨ys, e3, rfl⟩ := e2
      obtain ⟨h1, h2, h3⟩ := zcn e3
      exact ⟨fun k => by simp only [ioX, maIo, h1], by simp only [slX, zei, h2], h3⟩
    · cases e2
  | .n t r, xs, h => by
    simp only [qA_n, jo2] at h
    obtain ⟨ys, e3, rfl⟩ := h
    obtain ⟨h1, h2, h3⟩ := zcn e3
    exact ⟨fun k => by simp only [ioX, maIo, h1], h2, by simp only [nwX, zgD, h3]⟩
noncomputable def zlo : AV → Bool
  | .s _ _ => true
  | .n _ => true
  | _ => false
theorem zfg : ∀ {xs : List AV} {j k : Nat}, k ∈ ioX xs j ↔ j ≤ k ∧ ∃ x, xs[k - j]? = some x ∧ zlo x = true
  | [], j, k => by simp [ioX]
  | x :: r, j, k => by
    have ih := zfg (xs := r) (j := j + 1) (k := k)
    have key : k ∈ ioX r (j + 1) ↔ j ≤ k ∧ k ≠ j ∧ ∃ y, (x :: r)[k - j]? = some y ∧ zlo y = true := by
      rw [ih]
      constructor
      · rintro ⟨h1, y, h2, h3⟩
        refine ⟨by omega, by omega, y, ?_, h3⟩
        have e : k - j = (k - (j + 1)) + 1 := by omega
        rw [e, List.getElem?_cons_succ]; exact h2
      · rintro ⟨h1, h0, y, h2, h3⟩
        have e : k - j = (k - (j + 1)) + 1 := by omega
        rw [e, List.getElem?_cons_succ] at h2
        exact ⟨by omega, y, h2, h3⟩
    have no : zlo x = false → (k ∈ ioX r (j + 1) ↔ j ≤ k ∧ ∃ y, (x :: r)[k - j]? = some y ∧ zlo y = true) := fun hx => by
      rw [key]
      constructor
      · rintro ⟨h1, _, h2⟩; exact ⟨h1, h2⟩
      · rintro ⟨h1, y, h2, h3⟩
        refine ⟨h1, fun e => ?_, y, h2, h3⟩
        subst e
        rw [Nat.sub_self] at h2
        cases h2
        rw [hx] at h3; cases h3
    have yes : zlo x = true → (k = j ∨ k ∈ ioX r (j + 1) ↔ j ≤ k ∧ ∃ y, (x :: r)[k - j]? = some y ∧ zlo y = true) := fun hx => by
      rw [key]
      constructor
      · rintro (rfl | ⟨h1, _, h2⟩)
        · exact ⟨Nat.le_refl _, x, by rw [Nat.sub_self]; rfl, hx⟩
        · exact ⟨h1, h2⟩
      · rintro ⟨h1, h2⟩
        by_cases e : k = j
        · exact .inl e
        · exact .inr ⟨h1, e, h2⟩
    cases x with
    | e d => exact no rfl
    | l d => exact no rfl
    | s i d => rw [ioX, List.mem_cons]; exact yes rfl
    | n t => rw [ioX, List.mem_cons]; exact yes rfl
theorem zcZ {α β : Type} {F : α → β → Prop} : ∀ {xs : List α} {vs : List β} {k : Nat} {x : α}, Paired F xs vs → xs[k]? = some x → ∃ v, vs[k]? = some v ∧ F x v
  | _, _, _, _, .nil, e => by simp at e
  | _, _, 0, _, .cons h _, e => by simp at e; subst e; exact ⟨_, rfl, h⟩
  | _, _, k + 1, x, .cons _ t, e => by
    obtain ⟨v, h1, h2⟩ := zcZ (k := k) (x := x) t (by simpa using e)
    exact ⟨v, by simpa using h1, h2⟩
theorem zhk : ∀ {xs : List AV} {i : Nat}, i ∈ slX xs ↔ ∃ (k : Nat) (d : D), xs[k]? = some (AV.s i d)
  | [], i => by simp [slX]
  | x :: r, i => by
    have ih := zhk (xs := r) (i := i)
    have up : (∃ (k : Nat) (d : D), r[k]? = some (AV.s i d)) → ∃ (k : Nat) (d : D), (x :: r)[k]? = some (AV.s i d) := fun ⟨k, d, h⟩ => ⟨k + 1, d, by simpa using h⟩
    have dn : (∀ d, x ≠ .s i d) → (∃ (k : Nat) (d : D), (x :: r)[k]? = some (AV.s i d)) → ∃ (k : Nat) (d : D), r[k]? = some (AV.s i d) := fun hx zz1 => by
      obtain ⟨k, d, h⟩ := zz1
      cases k with
      | zero => cases h; exact absurd rfl (hx d)
      | succ k => exact ⟨k, d, by simpa using h⟩
    cases x with
    | s j d0 =>
      rw [slX, List.mem_cons, ih]
      constructor
      · rintro (rfl | h)
        · exact ⟨0, d0, rfl⟩
        · exact up h
      · intro h
        by_cases e : i = j
        · exact .inl e
        · exact .inr (dn (fun d z => by cases z; exact e rfl) h)
    | e d => show i ∈ slX r ↔ _; rw [ih]; exact ⟨up, dn fun _ z => nomatch z⟩
    | l d => show i ∈ slX r ↔ _; rw [ih]; exact ⟨up, dn fun _ z => nomatch z⟩
    | n d => show i ∈ slX r ↔ _; rw [ih]; exact ⟨up, dn fun _ z => nomatch z⟩
theorem zmP : ∀ {xs : List AV} {j k i : Nat} {d e : D}, (slX xs).Nodup → xs[j]? = some (.s i d) → xs[k]? = some (.s i e) → j = k
  | [], _, _, _, _, _, _, h, _ => by simp at h
  | x :: r, j, k, i, d, e, hn, h1, h2 => by
    have hr : (slX r).Nodup := by
      cases x with
      | s i d => rw [slX, List.nodup_cons] at hn; exact hn.2
      | _ => exact hn
    cases j with
    | zero =>
      cases k with
      | zero => rfl
      | succ k =>
        cases h1
        rw [slX, List.nodup_cons] at hn
        exact absurd (zhk.mpr ⟨k, e, by simpa using h2⟩) hn.1
    | succ j =>
      cases k with
      | zero =>
        cases h2
        rw [slX, List.nodup_cons] at hn
        exact absurd (zhk.mpr ⟨j, d, by simpa using h1⟩) hn.1
      | succ k => rw [zmP (j := j) (k := k) hr (by simpa using h1) (by simpa using h2)]
theorem zmQ : ∀ {xs : List AV} {j k : Nat} {t u : Bool}, nwX xs ≤ 1 → xs[j]? = some (.n t) → xs[k]? = some (.n u) → j = k
  | [], _, _, _, _, _, h, _ => by simp at h
  | x :: r, j, k, t, u, hn, h1, h2 => by
    have pos : ∀ {r : List AV} {k : Nat} {u : Bool}, r[k]? = some (AV.n u) → 0 < nwX r := by
      intro r
      induction r with
      | nil => intro k u h; simp at h
      | cons y r ih =>
        intro k u h
        cases k with
        | zero => cases h; simp [nwX]
        | succ k =>
          have := ih (k := k) (u := u) (by simpa using h)
          cases y <;> simp [nwX] <;> omega
    cases j with
    | zero =>
      cases k with
      | zero => rfl
      | succ k =>
        cases h1
        have := pos (k := k) (u := u) (r := r) (by simpa using h2)
        simp [nwX] at hn; omega
    | succ j =>
      cases k with
      | zero =>
        cases h2
        have := pos (k := j) (u := t) (r := r) (by simpa using h1)
        simp [nwX] at hn; omega
      | succ k =>
        have hr : nwX r ≤ 1 := by cases x <;> simp [nwX] at hn <;> omega
        rw [zmQ (j := j) (k := k) hr (by simpa using h1) (by simpa using h2)]
inductive OutsX (K : PySem.W.Frag) (W : Addr → Prop) (H : Hp) : List AV → List V → List D → Prop where
  | nil : OutsX K W H [] [] []
  | e {d : D} {v : V} {xs : List AV} {vs : List V} {os : List D} (t : OutsX K W H xs vs os) : OutsX K W H (.e d :: xs) (v :: vs) os
  | l {d : List D} {v : V} {xs : List AV} {vs : List V} {os : List D} (t : OutsX K W H xs vs os) : OutsX K W H (.l d :: xs) (v :: vs) os
  | s {i : Nat} {d : D} {a : Addr} {o : HO} {d' : D} {xs : List AV} {vs : List V} {os : List D} (e : H a = some o) (r : ORep K W H d' o) (t : OutsX K W H xs vs os) : OutsX K W H (.s i d :: xs) (.ref a :: vs) (d' :: os)
  | n {b : Bool} {v : V} {d' : D} {xs : List AV} {vs : List V} {os : List D} (t : OutsX K W H xs vs os) : OutsX K W H (.n b :: xs) (v :: vs) (d' :: os)
theorem zpF {K : PySem.W.Frag} {W : Addr → Prop} {H : Hp} {F : AV → V → Prop} : ∀ {xs : List AV} {vs pre : List V} {os : List D}, Paired F xs vs → Outs K W H (ioX xs pre.length) (pre ++ vs) os → OutsX K W H xs vs os
  | _, _, pre, os, .nil, h => by
    simp only [ioX] at h
    cases h; exact .nil
  | _, _, pre, os, .cons (a := x) (b := v) (l₁ := xs) (l₂ := vs) _ t, h => by
    have step : ∀ {os : List D}, Outs K W H (ioX xs (pre.length + 1)) (pre ++ v :: vs) os → OutsX K W H xs vs os := fun {os} h =>
      zpF (pre := pre ++ [v]) t (by simpa using h)
    cases x with
    | e d => exact .e (step h)
    | l d => exact .l (step h)
    | s i d =>
      simp only [ioX] at h
      cases h with
      | cons h r =>
        obtain ⟨a, o, e1, e2, e3⟩ := h
        simp at e1
        subst e1
        exact .s e2 e3 (step r)
    | n b =>
      simp only [ioX] at h
      cases h with
      | cons h r => exact .n (step r)
structure Upd (K : PySem.W.Frag) (W : Addr → Prop) (ρ : LW.Env) (σ : St) (H : Hp) (ρ' : LW.Env) (sl : List Nat) : Prop where
  len : ρ'.length = ρ.length
  other : ∀ i, i ∉ sl → ρ'[i]? = ρ[i]?
  at_ : ∀ i ∈ sl, ∃ x d a o, ρ[i]? = some (some x) ∧ x.cell.isSome = true ∧ ρ'[i]? = some (some (x.put d)) ∧ σ[i]? = some (some (.ref a)) ∧ H a = some o ∧ ORep K W H d o
theorem zdH {K : PySem.W.Frag} {W : Addr → Prop} {ρ0 : LW.Env} {σ : St} {H0 H1 H' : Hp} : ∀ {xs : List AV} {vs : List V} {os : List D} {ρ ρ' : LW.Env}, Paired (ArgOk K ρ0 σ H0 H1) xs vs → (slX xs).Nodup → (∀ i ∈ slX xs, ρ[i]? = ρ0[i]?) → OutsX K W H' xs vs os → putO ρ xs os = some ρ' → Upd K W ρ σ H' ρ' (slX xs)
  | _, _, _, ρ, ρ', .nil, _, _, h, e => by
    cases h
    simp only [putO] at e
    cases e
    exact ⟨rfl, fun _ _ => rfl, fun i h => (by cases h)⟩
  | _, _, _, ρ, ρ', .cons (a := x) (b := v) (l₁ := xs) (l₂ := vs) hx t, hn, hs, h, e => by
    cases h with
    | e h => simp only [putO] at e; show Upd K W ρ σ H' ρ' (slX xs); exact zdH (xs := xs) t hn hs h e
    | l h => simp only [putO] at e; show Upd K W ρ σ H' ρ' (slX xs); exact zdH (xs := xs) t hn hs h e
    | n h => simp only [putO] at e; show Upd K W ρ σ H' ρ' (slX xs); exact zdH (xs := xs) t hn hs h e
    | s e1 r h =>
      rename_i i d a o d' os
      simp only [putO] at e
      rw [slX, List.nodup_cons] at hn
      cases hx with
      | s h1 c k e2 =>
        rename_i y
        have h1' : ρ[i]? = some (some y) := by rw [hs i (by simp [slX])]; exact h1
        have ep : putS ρ i d' = ρ.set i (some (y.put d')) := by unfold putS; rw [h1']
        rw [ep] at e
        have hl : i < ρ.length := (List.getElem?_eq_some_iff.mp h1').1
        obtain ⟨l, ot, at_⟩ := zdH t hn.2 (fun j hj => by
          rw [zaC (fun z => hn.1 (by rw [z]; exact hj))]
          exact hs j (by rw [slX]; exact List.mem_cons_of_mem _ hj)) h e
        refine ⟨by simpa using l, fun j hj => ?_, fun j hj => ?_⟩
        · rw [slX, List.mem_cons] at hj
          rw [ot j (fun z => hj (.inr z)), zaC (fun z => hj (.inl z.symm))]
        · rw [slX, List.mem_cons] at hj
          by_cases ej : j = i
          · subst ej
            refine ⟨y, d', a, o, h1', by rw [c]; rfl, ?_, e2, e1, r⟩
            rw [ot j hn.1, zcH hl]
          · obtain ⟨x, d, a, o, z1, z2⟩ := at_ j (hj.resolve_left ej)
            rw [zaC (fun z => ej z.symm)] at z1
            exact ⟨x, d, a, o, z1, z2⟩
theorem zov {K : PySem.W.Frag} {W : Addr → Prop} {ρ ρ' : LW.Env} {σ : St} {H H' : Hp} {sl : List Nat} (r : R K W ρ σ H) (u : Upd K W ρ σ H' ρ' sl) (keep : ∀ a o, H a = some o → (∀ i ∈ sl, σ[i]? ≠ some (some (.ref a))) → H' a = some o) : SPost K W ρ σ H W ρ' σ H' := by
  have cellOf : ∀ {x : SV}, x.cell.isSome = true → ∃ d, x.cell = some d := fun {x} h => Option.isSome_iff_exists.mp h
  have ownSl : ∀ {i : Nat} {a : Addr}, i ∈ sl → σ[i]? = some (some (.ref a)) → Own ρ σ a := fun {i a} hi e => by
    obtain ⟨x, d, a', o, h1, h2, _⟩ := u.at_ i hi
    obtain ⟨d0, hc⟩ := cellOf h2
    exact ⟨i, x, d0, h1, hc, e⟩
  have kp : ∀ a o, H a = some o → ¬ Own ρ σ a → H' a = some o := fun a o h n => keep a o h fun i hi e => n (ownSl hi e)
  have ext : Ext W H W H' := by
    refine ⟨fun a o h n => kp a o h fun z => n (r.ownW z).1, fun a xs h => kp a _ h fun z => ?_, fun a o w h => kp a _ h fun z => ?_, fun a w => .inl w⟩
    · obtain ⟨_, o, d, e, q⟩ := r.ownW z
      rw [h] at e; cases e; exact q.kind.1 xs rfl
    · obtain ⟨_, o, d, e, q⟩ := r.ownW z
      rw [h] at e; cases e; exact q.kind.2 _ _ rfl
  have old : ∀ {k : Nat} {y : SV} {es : D}, ρ'[k]? = some (some y) → y.cell = some es → ∃ y' es', ρ[k]? = some (some y') ∧ y'.cell = some es' := fun {k y es} q c => by
    by_cases hk : k ∈ sl
    · obtain ⟨x, d, a', o, h1, h2, _⟩ := u.at_ k hk
      obtain ⟨d0, hc⟩ := cellOf h2
      exact ⟨x, d0, h1, hc⟩
    · rw [u.other k hk] at q; exact ⟨y, es, q, c⟩
  refine ⟨⟨fun k d hk => ?_, fun k d hk => ?_, fun k y es hk hc => ?_, fun k l x y e1 e2 b h1 h2 c1 c2 h3 h4 => ?_, fun b w => ?_, by rw [u.len]; exact r.len⟩, kp, fun b w => .inl w, fun b w n => ⟨w, fun ⟨k, y, es, z1, c, z2⟩ => ?_⟩, fun j => ⟨?_, fun _ => rfl⟩⟩
  · by_cases hs : k ∈ sl
    · obtain ⟨x, d', a', o, h1, h2, h3, _⟩ := u.at_ k hs
      rw [h3] at hk
      exact absurd (Option.some.inj (Option.some.inj hk)) (zmC _ _ _)
    · rw [u.other k hs] at hk
      obtain ⟨v, h1, h2⟩ := r.val k d hk
      exact ⟨v, h1, h2.ext ext⟩
  · by_cases hs : k ∈ sl
    · obtain ⟨x, d', a', o, h1, h2, h3, _⟩ := u.at_ k hs
      rw [h3] at hk
      exact absurd (Option.some.inj (Option.some.inj hk)) (zmD _ _ _)
    · rw [u.other k hs] at hk
      exact r.nol k d hk
  · by_cases hs : k ∈ sl
    · obtain ⟨x, d', a', o, h1, h2, h3, h4, h5, h6⟩ := u.at_ k hs
      rw [h3] at hk
      cases hk
      rw [zkt] at hc
      cases hc
      obtain ⟨d0, hc0⟩ := cellOf h2
      exact ⟨a', o, h4, (r.ownW ⟨k, x, d0, h1, hc0, h4⟩).1, h5, h6⟩
    · rw [u.other k hs] at hk
      obtain ⟨b, ys, h1, h2, h3, h4⟩ := r.own k y es hk hc
      refine ⟨b, ys, h1, h2, keep b ys h3 fun i hi e => hs ?_, h4.ext ext⟩
      obtain ⟨x, d', a', o, g1, g2, _⟩ := u.at_ i hi
      obtain ⟨d0, hc0⟩ := cellOf g2
      rw [r.inj k i y x es d0 b hk g1 hc hc0 h1 e]
      exact hi
  · obtain ⟨_, _, z1, w1⟩ := old h1 c1
    obtain ⟨_, _, z2, w2⟩ := old h2 c2
    exact r.inj k l _ _ _ _ b z1 z2 w1 w2 h3 h4
  · cases e : H b with
    | none => exact absurd e (r.wf b w)
    | some o =>
      by_cases hz : ∃ i ∈ sl, σ[i]? = some (some (.ref b))
      · obtain ⟨i, hi, e'⟩ := hz
        obtain ⟨x, d', a', o, g1, g2, g3, g4, g5, _⟩ := u.at_ i hi
        rw [e'] at g4; cases g4
        rw [g5]; exact fun z => nomatch z
      · rw [keep b o e fun i hi e' => hz ⟨i, hi, e'⟩]; exact fun z => nomatch z
  · obtain ⟨_, _, z, w'⟩ := old z1 c
    exact n ⟨k, _, _, z, w', z2⟩
  · by_cases hs : j ∈ sl
    · obtain ⟨x, d', a', o, h1, h2, h3, _⟩ := u.at_ j hs
      unfold isIo
      rw [h1, h3]
      constructor
      · rintro ⟨d2, z⟩
        obtain ⟨d3, w⟩ := zku.mp ⟨d2, Option.some.inj (Option.some.inj z)⟩
        exact ⟨d3, by rw [w]⟩
      · rintro ⟨d2, z⟩
        obtain ⟨d3, w⟩ := zku (d := d') |>.mpr ⟨d2, Option.some.inj (Option.some.inj z)⟩
        exact ⟨d3, by rw [w]⟩
    · unfold isIo; rw [u.other j hs]
section
variable {X : Cx} {fn : Nat → List D → Option SV} {fa : Nat → List D → Option Ans} {fuel : Nat} {a b c e : Expr} {ca cb cc ce : E} {es : List Expr} {cs : Es} {ma : MA} {m : M} {pos p : Pos} {x : Str} {st : Stmt} {sts sts' : List Stmt} {s : S} {ss s1 s2 : Ss}
theorem zmR {K : PySem.W.Frag} {W : Addr → Prop} {H : Hp} {d : D} {o : HO} (h : ORep K W H d o) (k : zf7 d = true) : ∀ xs, o ≠ .lst xs := by
  cases h with
  | lst r => cases k
  | dK l r => exact fun _ z => nomatch z
  | dT l r => exact fun _ z => nomatch z
theorem zmS {d : D} (k : zf7 d = true) : zbO d = true := by
  cases d with
  | dct t ks vs => exact k
  | _ => cases k
theorem OutsX.plain {K : PySem.W.Frag} {W W' : Addr → Prop} {H : Hp} {xs : List AV} {vs : List V} {os : List D} (h : OutsX K W H xs vs os) (p : os.all zbO = true) : OutsX K W' H xs vs os := by
  induction h with
  | nil => exact .nil
  | e _ ih => exact .e (ih p)
  | l _ ih => exact .l (ih p)
  | s e r _ ih =>
    simp only [List.all_cons, Bool.and_eq_true] at p
    exact .s e (r.plain p.1) (ih p.2)
  | n _ ih =>
    simp only [List.all_cons, Bool.and_eq_true] at p
    exact .n (ih p.2)
theorem Res.fine {K : PySem.W.Frag} {W W' : Addr → Prop} {H H' : Hp} {r : SV} {v : V} (h : Res K W' H H' r v) (p : r.fine = true) : Res K W H H' r v := by
  cases h with
  | val h => exact .val (h.plain p)
  | new h e r => exact .new h e (r.plain p)
  | see h e r => cases p
theorem zsR {k : Nat} {f : Addr} {fd : FuncData} {ps : List Str} {i : Nat} {io : List Nat} (F : FnOk X.prog X.w X.K X.mg X.base CX0 k f fd ps (spA X.K fa i io)) (hio : io = maIo ma 0) (hnd : (zei ma).Nodup) (hnw : zgD ma ≤ 1)
    (hr : Room k X.A) (hg : Gl X x) (hm : X.mg x = some (.ref f)) (hk : PySem.W.keepIn X.K (.ref f) = true)
    (hb : Binds X.K fd ps []) (ha : IMA X (prj fa) (e :: es) ma) (hdb : (x == ("__debug__" : Str)) = false := by decide) (he : starEach (e :: es) X.env = (false, eval e X.env) :: starEach es X.env := by rfl)
    (hpl : (backTo pos (starEach es X.env)).any (·.1) = false := by rfl) : IM X fa (.Call (.Name x p) (e :: es) [] pos) (.call i ma) :=
  .mk <| (zl6 F hr hg hm hk hb .nil zsk ha.h hdb he hpl).imp fun σ H Q zz3 => by
    obtain ⟨W, ρ, r, ρ', hR, h, q⟩ := zz3
    simp only [zqt, jo1] at h
    obtain ⟨xs, e1, an, e2, e3⟩ := h
    obtain ⟨r', outs, rfl⟩ : ∃ r' outs, an = Ans.ok r' outs := by
      cases an with
      | ok r o => exact ⟨r, o, rfl⟩
      | ex c => cases e3
    simp only at e3
    split at e3
    case isFalse => cases e3
    rename_i hp
    rw [Bool.and_eq_true] at hp
    rw [jo2] at e3
    obtain ⟨ρ2, e3, e4⟩ := e3
    cases e4
    refine ⟨W, ρ, xs, hR, e1, fun vs H1 s1 f => ?_⟩
    show spA X.K fa i io (vs ++ []) H1 Q E0
    rw [List.append_nil]
    obtain ⟨t1, t2, t3⟩ := zcn e1
    have hio' : io = ioX xs 0 := by rw [hio, t1]
    subst hio'
    rw [← t2] at hnd
    rw [← t3] at hnw
    have at_ : ∀ {k : Nat} {a : Addr}, k ∈ ioX xs 0 → vs[k]? = some (.ref a) → (∃ i d y, xs[k]? = some (.s i d) ∧ ρ[i]? = some (some y) ∧ y.cell = some d ∧ zf7 d = true ∧ σ[i]? = some (some (.ref a))) ∨ (∃ t, xs[k]? = some (.n t) ∧ H a = Option.none ∧ ∃ o, H1 a = some o ∧ ∀ W, ORep X.K W H1 (.dct t [] []) o) := fun {k a} hk hv => by
      obtain ⟨_, x, hx, hi⟩ := zfg.mp hk
      rw [Nat.sub_zero] at hx
      obtain ⟨v, h1, h2⟩ := zcZ f hx
      rw [hv] at h1
      cases h1
      cases h2 with
      | e _ => cases hi
      | l _ _ => cases hi
      | s g1 g2 g3 g4 => exact .inl ⟨_, _, _, hx, g1, g2, g3, g4⟩
      | n g1 g2 g3 => exact .inr ⟨_, hx, g1, _, g2, g3⟩
    have hR1 := hR.same s1
    have ioD : ∀ a, ioV (ioX xs 0) vs a → ∃ o, H1 a = some o ∧ ∀ zs, o ≠ .lst zs := fun a zz1 => by
      obtain ⟨k, hk, hv⟩ := zz1
      rcases at_ hk hv with ⟨i, d, y, _, g1, g2, g3, g4⟩ | ⟨t, _, _, o, g2, g3⟩
      · obtain ⟨b, o, z1, z2, z3, z4⟩ := hR1.own i y d g1 g2
        rw [g4] at z1; cases z1
        exact ⟨o, z3, zmR z4 g3⟩
      · exact ⟨o, g2, zmR (g3 W) rfl⟩
    have ar : ARep X.K (ioV (ioX xs 0) vs) H1 (ioX xs 0) (xs.map seeA) vs := by
      refine ⟨by rw [List.length_map]; exact Paired.length f, fun k d hd hk => ?_, fun k d hd hk => ?_, fun j k a hj hk h1 h2 => ?_⟩
      · rw [List.getElem?_map, jo2] at hd
        obtain ⟨x, hx, rfl⟩ := hd
        obtain ⟨v, h1, h2⟩ := zcZ f hx
        refine ⟨v, h1, ?_⟩
        cases h2 with
        | e g => exact g _
        | l g1 g2 =>
          refine .lst ?_ (g2 _)
          rcases g1 with ⟨_, g1⟩ | g1
          · refine .inl ⟨fun z => ?_, g1⟩
            obtain ⟨o, z1, z2⟩ := ioD _ z
            rcases g1 with g1 | ⟨ob, g1⟩
            · rw [g1] at z1; cases z1; exact z2 _ rfl
            · rw [g1] at z1; cases z1
              obtain ⟨k', hk', hv'⟩ := z
              rcases at_ hk' hv' with ⟨i, d, y, _, c1, c2, c3, c4⟩ | ⟨t, _, _, o, c2, c3⟩
              · obtain ⟨b, o, y1, y2, y3, y4⟩ := hR1.own i y d c1 c2
                rw [c4] at y1; cases y1
                rw [g1] at y3; cases y3
                exact y4.kind.2 _ _ rfl
              · rw [g1] at c2; cases c2
                exact (c3 W).kind.2 _ _ rfl
          · exact .inr g1
        | s _ _ _ _ => exact absurd (zfg.mpr ⟨Nat.zero_le _, _, by rw [Nat.sub_zero]; exact hx, rfl⟩) hk
        | n _ _ _ => exact absurd (zfg.mpr ⟨Nat.zero_le _, _, by rw [Nat.sub_zero]; exact hx, rfl⟩) hk
      · rw [List.getElem?_map, jo2] at hd
        obtain ⟨x, hx, rfl⟩ := hd
        obtain ⟨v, h1, h2⟩ := zcZ f hx
        have hio := zfg.mp hk
        obtain ⟨_, x', hx', hi'⟩ := hio
        rw [Nat.sub_zero, hx] at hx'
        cases hx'
        cases h2 with
        | e _ => cases hi'
        | l _ _ => cases hi'
        | s g1 g2 g3 g4 =>
          obtain ⟨b, o, z1, z2, z3, z4⟩ := hR1.own _ _ _ g1 g2
          rw [g4] at z1; cases z1
          exact ⟨_, o, h1, ⟨k, hk, h1⟩, z3, z4.plain (zmS g3)⟩
        | n g1 g2 g3 => exact ⟨_, _, h1, ⟨k, hk, h1⟩, g2, g3 _⟩
      · rcases at_ hj h1 with ⟨i, d, y, w0, c1, c2, c3, c4⟩ | ⟨t, w0, c1, _⟩
        · rcases at_ hk h2 with ⟨i', d', y', w0', c1', c2', c3', c4'⟩ | ⟨t', w0', c1', _⟩
          · have := hR.inj i i' y y' d d' a c1 c1' c2 c2' c4 c4'
            subst this
            exact zmP hnd w0 w0'
          · exact absurd c1' (hR.wf _ (hR.ownW ⟨i, y, d, c1, c2, c4⟩).1)
        · rcases at_ hk h2 with ⟨i', d', y', w0', c1', c2', c3', c4'⟩ | ⟨t', w0', c1', _⟩
          · exact absurd c1 (hR.wf _ (hR.ownW ⟨i', y', d', c1', c2', c4'⟩).1)
          · exact zmQ hnw w0 w0'
    refine ⟨_, _, r, outs, fun a ha => ?_, ar, e2, fun v H' kp ho res => ?_⟩
    · obtain ⟨o, z, _⟩ := ioD a ha
      rw [z]; exact fun z => nomatch z
    · refine q v H' (zov hR (zdH f hnd (fun _ _ => rfl) ((zpF (pre := []) f ho).plain hp.2) e3) fun a o h n => kp a o (s1 _ _ h) fun ⟨k, hk, hv⟩ => ?_) ((res.fine hp.1).back s1)
      rcases at_ hk hv with ⟨i, d, y, w0, c1, c2, c3, c4⟩ | ⟨t, w0, c1, _⟩
      · exact n i (zhk.mpr ⟨k, d, w0⟩) c4
      · rw [h] at c1; cases c1
theorem SPost.wf' {K : PySem.W.Frag} {W W' : Addr → Prop} {ρ ρ' : LW.Env} {σ σ' : St} {H H' : Hp} (p : SPost K W ρ σ H W' ρ' σ' H') : Wf W' H' := p.r.wf
theorem zsS (i : Nat) {pos' : Pos} (hN : X.N.Nodup) (hi : X.N[i]? = some x) (hx : Loc X.env.scope x) (he : IM X fa e m) (hs : swapsWith e (some (.Name x pos')) pos.line X.env = pure false := by rfl)
    (hf : X.fn x = true ∨ X.env.scope.names.lookup x = some .local := by first | exact .inl rfl | exact .inr rfl | assumption) : IS X (exS fa fuel (.asgM i m)) (.Assign [.Name x pos'] e pos) :=
  .mk <| (zlX hN hi hx he.h hs hf).imp fun D σ H zz3 => by
    obtain ⟨W, ρ, y, hR, hy, q⟩ := zz3
    simp only [zqx, jo1] at hy
    obtain ⟨⟨r, ρ'⟩, e1, e2⟩ := hy
    split at e2
    · cases e2
    · rename_i hl
      cases e2
      simp only [Bool.not_eq_true, Bool.or_eq_false_iff, Bool.not_eq_false'] at hl
      refine ⟨W, ρ, r, ρ', hR, e1, fun v H1 p1 h => ?_⟩
      cases h with
      | val h => exact q W _ H1 (p1.trans (za4 p1.r (.refl _) h (zbX hl.2)) hR)
      | new h e r =>
        exact q W _ H1 (p1.trans (za4 p1.r (.refl _) ((r.less fun b w => .inl w).rep (fun w => hR.wf _ w h) e) (zbX hl.2)) hR)
      | see h e r => simp [SV.lent] at hl
end
end L2.LW
set_option linter.all false
set_option maxHeartbeats 4000000
namespace L2.LW
open PySem PySem.Spec PyProof.Rows
section
variable {X : Cx} {fn : Nat → List D → Option SV} {fa : Nat → List D → Option Ans} {fuel : Nat} {st : Stmt} {s : S}
theorem zep : ∀ (r : List Int) (n : Int), (∀ x ∈ n :: r, x ≤ r.foldl max n) ∧ r.foldl max n ∈ n :: r
  | [], n => by simp
  | x :: r, n => by
    obtain ⟨h1, h2⟩ := zep r (max n x)
    rw [List.foldl_cons]
    refine ⟨fun y hy => ?_, ?_⟩
    · have h0 := h1 (max n x) List.mem_cons_self
      rcases List.mem_cons.mp hy with rfl | hy
      · omega
      · rcases List.mem_cons.mp hy with rfl | hy
        · omega
        · exact h1 y (List.mem_cons_of_mem _ hy)
    · rcases List.mem_cons.mp h2 with e | e
      · rw [e]
        rcases Int.le_total n x with q | q
        · rw [Int.max_eq_right q]; simp
        · rw [Int.max_eq_left q]; simp
      · exact List.mem_cons_of_mem _ (List.mem_cons_of_mem _ e)
theorem zeq : ∀ (r : List Int) (n : Int), (∀ x ∈ n :: r, r.foldl min n ≤ x) ∧ r.foldl min n ∈ n :: r
  | [], n => by simp
  | x :: r, n => by
    obtain ⟨h1, h2⟩ := zeq r (min n x)
    rw [List.foldl_cons]
    refine ⟨fun y hy => ?_, ?_⟩
    · have h0 := h1 (min n x) List.mem_cons_self
      rcases List.mem_cons.mp hy with rfl | hy
      · omega
      · rcases List.mem_cons.mp hy with rfl | hy
        · omega
        · exact h1 y (List.mem_cons_of_mem _ hy)
    · rcases List.mem_cons.mp h2 with e | e
      · rw [e]
        rcases Int.le_total n x with q | q
        · rw [Int.min_eq_left q]; simp
        · rw [Int.min_eq_right q]; simp
      · exact List.mem_cons_of_mem _ (List.mem_cons_of_mem _ e)
theorem zjE {its : List Value} {ns : List Int} (hi : IntsAre its ns) : ∃ ps : List (Int × Tok), its = ps.map (fun p => Value.int p.1 p.2) ∧ ns = ps.map (·.1) := by
  induction hi with
  | nil => exact ⟨[], rfl, rfl⟩
  | cons n t h ih =>
    obtain ⟨ps, e1, e2⟩ := ih
    exact ⟨(n, t) :: ps, by rw [e1]; rfl, by rw [e2]; rfl⟩
theorem zik {its : List Value} {ns : List Int} (hi : IntsAre its ns) : ∃ xs : Array (Int × Tok), its.toArray = intItems xs ∧ xs.size = ns.length ∧ ∀ i, (h : i < ns.length) → numAt xs i = ns[i] := by
  obtain ⟨ps, rfl, rfl⟩ := zjE hi
  refine ⟨ps.toArray, by simp [intItems], by simp, fun i h => ?_⟩
  have h' : i < ps.length := by simpa using h
  simp [numAt, h']
theorem zqO (hc : X.calm = true) : CallR X (.builtin "max") (VR X.K (zaj .maxL)) := by
  rintro pins s σ H xs us Q I rv ⟨W, ds, r, wf, hs, hf, q⟩
  replace hf : zod ds = some r := hf
  unfold zod at hf
  split at hf
  · rename_i l
    rw [jo1] at hf
    obtain ⟨ns, e1, hf⟩ := hf
    cases ns with
    | nil => cases hf
    | cons n ns =>
      cases hf
      cases hs with
      | cons h1 t =>
        cases t
        obtain ⟨p, ys, rfl, hp, rp⟩ := h1.lst
        have ey := rp.ofInts e1
        subst ey
        obtain ⟨u, rfl, ru⟩ := zf3 rv
        cases ru
        obtain ⟨its, rv', pl, hz⟩ := I.list hp
        obtain ⟨xs, x1, x2, x3⟩ := zik (zbR rv')
        have hpl := pl.isList
        rw [x1] at hpl
        refine max_intList (I.ok.hd hc) hpl (by rw [x2]; simp) fun v h' tk hv hk => ?_
        obtain ⟨t, rfl⟩ := intItems_at hv
        obtain ⟨g1, g2⟩ := argBest_gt (numAt xs) (xs.size - 1)
        have hlen : xs.size - 1 = ns.length := by rw [x2]; simp
        rw [hlen] at g1 g2 ⊢
        generalize argBest (fun i j => decide (numAt xs i > numAt xs j)) ns.length = b at g1 g2 ⊢
        have eb : numAt xs b = ns.foldl max n := by
          obtain ⟨m1, m2⟩ := zep ns n
          have hb : b < (n :: ns).length := by simp; omega
          obtain ⟨j, hj, ej⟩ := List.getElem_of_mem m2
          have q1 := m1 _ (List.getElem_mem hb)
          have q2 := g2 j (by simp at hj; omega)
          rw [x3 j hj, ej] at q2
          rw [x3 b hb] at q2 ⊢
          omega
        rw [eb]
        exact ⟨.int _, H, I.kept (t' := tk) hk, ⟨_, rfl⟩, q _ H (.refl H) (.val (.int _))⟩
  · cases hf
theorem zqP (hc : X.calm = true) : CallR X (.builtin "min") (VR X.K (zaj .minL)) := by
  rintro pins s σ H xs us Q I rv ⟨W, ds, r, wf, hs, hf, q⟩
  replace hf : zoe ds = some r := hf
  unfold zoe at hf
  split at hf
  · rename_i l
    rw [jo1] at hf
    obtain ⟨ns, e1, hf⟩ := hf
    cases ns with
    | nil => cases hf
    | cons n ns =>
      cases hf
      cases hs with
      | cons h1 t =>
        cases t
        obtain ⟨p, ys, rfl, hp, rp⟩ := h1.lst
        have ey := rp.ofInts e1
        subst ey
        obtain ⟨u, rfl, ru⟩ := zf3 rv
        cases ru
        obtain ⟨its, rv', pl, hz⟩ := I.list hp
        obtain ⟨xs, x1, x2, x3⟩ := zik (zbR rv')
        have hpl := pl.isList
        rw [x1] at hpl
        refine min_intList (I.ok.hd hc) hpl (by rw [x2]; simp) fun v h' tk hv hk => ?_
        obtain ⟨t, rfl⟩ := intItems_at hv
        obtain ⟨g1, g2⟩ := argBest_lt (numAt xs) (xs.size - 1)
        have hlen : xs.size - 1 = ns.length := by rw [x2]; simp
        rw [hlen] at g1 g2 ⊢
        generalize argBest (fun i j => decide (numAt xs i < numAt xs j)) ns.length = b at g1 g2 ⊢
        have eb : numAt xs b = ns.foldl min n := by
          obtain ⟨m1, m2⟩ := zeq ns n
          have hb : b < (n :: ns).length := by simp; omega
          obtain ⟨j, hj, ej⟩ := List.getElem_of_mem m2
          have q1 := m1 _ (List.getElem_mem hb)
          have q2 := g2 j (by simp at hj; omega)
          rw [x3 j hj, ej] at q2
          rw [x3 b hb] at q2 ⊢
          omega
        rw [eb]
        exact ⟨.int _, H, I.kept (t' := tk) hk, ⟨_, rfl⟩, q _ H (.refl H) (.val (.int _))⟩
  · cases hf
end
end L2.LW
set_option linter.all false
set_option maxHeartbeats 4000000
namespace L2.LW
open PySem PySem.W PyProof.Rows
section
variable {n : Nat} {r : Nat → Int} {cmp : Nat → Nat → (Bool → Shared → Prop) → Shared → Prop} {I : Shared → Prop}
noncomputable def kk (r : Nat → Int) (p : Array Nat) (i : Nat) : Int := r (p.getD i 0)
structure Pm (n : Nat) (r : Nat → Int) (p : Array Nat) : Prop where
  perm : p.Perm (List.range n).toArray
  size : p.size = n
  lt : ∀ i, i < n → p.getD i 0 < n
  inj : ∀ i j, i < n → j < n → i ≠ j → kk r p i ≠ kk r p j
theorem Pm.of {p : Array Nat} (hr : ∀ i j, i < n → j < n → i ≠ j → r i ≠ r j) (h : p.Perm (List.range n).toArray) : Pm n r p := by
  have hs : p.size = n := by have := h.size_eq; simpa using this
  have hl : p.toList.Perm (List.range n) := Array.perm_iff_toList_perm.mp h
  have hlt : ∀ i, i < n → p.getD i 0 < n := fun i hi => by
    have hi' : i < p.size := by omega
    have : p[i] ∈ p.toList := by simp
    have := hl.mem_iff.mp this
    rw [List.mem_range] at this
    simpa [Array.getD, hi'] using this
  have hnd : p.toList.Nodup := hl.nodup_iff.mpr List.nodup_range
  refine ⟨h, hs, hlt, fun i j hi hj ne => hr _ _ (hlt i hi) (hlt j hj) fun e => ne ?_⟩
  have hi' : i < p.size := by omega
  have hj' : j < p.size := by omega
  simp only [Array.getD, hi', hj', dif_pos] at e
  have e' : p.toList[i]'(by simpa using hi') = p.toList[j]'(by simpa using hj') := by simpa using e
  exact (List.getElem_inj hnd).mp e'
noncomputable def Up (r : Nat → Int) (p : Array Nat) (k : Nat) : Prop := ∀ i j, i < j → j < k → kk r p i < kk r p j
noncomputable def Dn (r : Nat → Int) (p : Array Nat) (k : Nat) : Prop := ∀ i j, i < j → j < k → kk r p j < kk r p i
theorem Up.one {p : Array Nat} {k : Nat} (h : k ≤ 1) : Up r p k := fun i j h1 h2 => by omega
theorem Dn.one {p : Array Nat} {k : Nat} (h : k ≤ 1) : Dn r p k := fun i j h1 h2 => by omega
theorem Up.next {p : Array Nat} {k : Nat} (h : Up r p k) (hk : 1 ≤ k) (e : kk r p (k - 1) < kk r p k) : Up r p (k + 1) := fun i j h1 h2 => by
  by_cases hj : j = k
  · subst hj
    by_cases hi : i = j - 1
    · rw [hi]; exact e
    · exact Int.lt_trans (h i (j - 1) (by omega) (by omega)) e
  · exact h i j h1 (by omega)
theorem Dn.next {p : Array Nat} {k : Nat} (h : Dn r p k) (hk : 1 ≤ k) (e : kk r p k < kk r p (k - 1)) : Dn r p (k + 1) := fun i j h1 h2 => by
  by_cases hj : j = k
  · subst hj
    by_cases hi : i = j - 1
    · rw [hi]; exact e
    · exact Int.lt_trans e (h i (j - 1) (by omega) (by omega))
  · exact h i j h1 (by omega)
theorem Pm.lt' {p : Array Nat} (P : Pm n r p) {i j : Nat} (hi : i < n) (hj : j < n) (ne : i ≠ j) (h : ¬ kk r p i < kk r p j) : kk r p j < kk r p i := by
  have := P.inj i j hi hj ne
  omega
variable (hc : ∀ i j C s, i < n → j < n → I s → (∀ s', I s' → C (decide (r i < r j)) s') → cmp i j C s)
include hc
theorem zmT {p : Array Nat} (P : Pm n r p) {Q : Nat → Shared → Prop} : ∀ (f m : Nat) (s : Shared), 1 ≤ m → m + f = n → I s → Up r p m → (∀ k s', I s' → m ≤ k → k ≤ n → Up r p k → (k = n ∨ kk r p k < kk r p (k - 1)) → (k = m ∨ kk r p m > kk r p (m - 1)) → Q k s') → (kas_asc p f m).kasWp cmp Q s
  | 0, m, s, h1, h2, hI, hu, q => q m s hI (Nat.le_refl _) (by omega) hu (.inl (by omega)) (.inl rfl)
  | f + 1, m, s, h1, h2, hI, hu, q => by
    refine hc _ _ _ s (P.lt m (by omega)) (P.lt (m - 1) (by omega)) hI fun s' hI' => ?_
    by_cases h : kk r p m < kk r p (m - 1)
    · have e : decide (r (p.getD m 0) < r (p.getD (m - 1) 0)) = true := decide_eq_true h
      simp only [e, if_true]
      exact q m s' hI' (Nat.le_refl _) (by omega) hu (.inr h) (.inl rfl)
    · have e : decide (r (p.getD m 0) < r (p.getD (m - 1) 0)) = false := decide_eq_false h
      simp only [e, Bool.false_eq_true, if_false]
      have hlt := P.lt' (by omega) (by omega) (by omega) h
      exact zmT P f (m + 1) s' (by omega) (by omega) hI' (hu.next h1 hlt) fun k s'' hs h3 h4 h5 h6 _ => q k s'' hs (by omega) h4 h5 h6 (.inr hlt)
theorem zmU {p : Array Nat} (P : Pm n r p) {Q : Array Nat × Nat × Nat → Shared → Prop} : ∀ (f m : Nat) (s : Shared), 1 ≤ m → m + f = n → I s → Dn r p m → (∀ k s', I s' → m ≤ k → k ≤ n → Dn r p k → Q (p, k, 0) s') → (kas_desc f p m 0).kasWp cmp Q s
  | 0, m, s, h1, h2, hI, hu, q => q m s hI (Nat.le_refl _) (by omega) hu
  | f + 1, m, s, h1, h2, hI, hu, q => by
    refine hc _ _ _ s (P.lt m (by omega)) (P.lt (m - 1) (by omega)) hI fun s' hI' => ?_
    by_cases h : kk r p m < kk r p (m - 1)
    · have e : decide (r (p.getD m 0) < r (p.getD (m - 1) 0)) = true := decide_eq_true h
      simp only [e, if_true, Nat.lt_irrefl, if_false, gt_iff_lt]
      exact zmU P f (m + 1) s' (by omega) (by omega) hI' (hu.next h1 h) fun k s'' hs h3 h4 h5 => q k s'' hs (by omega) h4 h5
    · have e : decide (r (p.getD m 0) < r (p.getD (m - 1) 0)) = false := decide_eq_false h
      simp only [e, Bool.false_eq_true, if_false]
      have hlt := P.lt' (by omega) (by omega) (by omega) h
      refine hc _ _ _ s' (P.lt (m - 1) (by omega)) (P.lt m (by omega)) hI' fun s'' hI'' => ?_
      have e2 : decide (r (p.getD (m - 1) 0) < r (p.getD m 0)) = true := decide_eq_true hlt
      simp only [e2, if_true]
      exact q m s'' hI'' (Nat.le_refl _) (by omega) hu
omit hc in
theorem Pm.rev {p : Array Nat} (hr : ∀ i j, i < n → j < n → i ≠ j → r i ≠ r j) (P : Pm n r p) (i j : Nat) : Pm n r (kas_rev p i j) := Pm.of hr ((mirror_perm p i j _).trans P.perm)
omit hc in
theorem zpG {p : Array Nat} {m k : Nat} (hm : m ≤ p.size) : kk r (kas_rev p 0 m) k = if k < m then kk r p (m - 1 - k) else kk r p k := by
  have e := getElem?_mirror_all (i := 0) hm k
  simp only [Nat.zero_le, true_and, Nat.zero_add] at e
  by_cases h : k < m
  · rw [if_pos h] at e ⊢
    simp only [kk, kas_rev, Array.getD_eq_getD_getElem?, e]
  · rw [if_neg h] at e ⊢
    simp only [kk, kas_rev, Array.getD_eq_getD_getElem?, e]
omit hc in
theorem Dn.rev {p : Array Nat} {m : Nat} (hm : m ≤ p.size) (h : Dn r p m) : Up r (kas_rev p 0 m) m := fun i j h1 h2 => by
  rw [zpG hm, zpG hm, if_pos (by omega), if_pos h2]
  exact h _ _ (by omega) (by omega)
theorem zow (hr : ∀ i j, i < n → j < n → i ≠ j → r i ≠ r j) {p : Array Nat} (P : Pm n r p) {m : Nat} {s : Shared} {Q : Nat × Array Nat → Shared → Prop} (h1 : 1 ≤ m) (h2 : m ≤ n) (hI : I s) (hd : Dn r p m)
    (q : ∀ k p' s', I s' → k ≤ n → 1 ≤ k → Pm n r p' → Up r p' k → Q (k, p') s') : (kas_tail3 m n p).kasWp cmp Q s := by
  unfold kas_tail3
  rw [KasT.kasWp_bind]
  have P' := P.rev hr 0 m
  refine zmT hc P' (n - m) m s h1 (by omega) hI (hd.rev (by rw [P.size]; exact h2)) fun k s' hs h3 h4 h5 _ _ => ?_
  exact q k _ s' hs h4 (by omega) P' h5
theorem zjF (hr : ∀ i j, i < n → j < n → i ≠ j → r i ≠ r j) {p : Array Nat} (P : Pm n r p) {s : Shared} {Q : Nat × Array Nat → Shared → Prop} (h2 : 2 ≤ n) (hI : I s) (hd : kk r p 1 < kk r p 0)
    (q : ∀ k p' s', I s' → k ≤ n → 1 ≤ k → Pm n r p' → Up r p' k → Q (k, p') s') : (kas_descPart 1 n p).kasWp cmp Q s := by
  unfold kas_descPart
  rw [KasT.kasWp_bind]
  refine zmU hc P (n - 2) 2 s (by omega) (by omega) hI ((Dn.one (k := 1) (Nat.le_refl _)).next (Nat.le_refl _) hd) fun k s' hs h3 h4 h5 => ?_
  simp only [Nat.lt_irrefl, if_false, gt_iff_lt]
  exact zow hc hr P (by omega) h4 hs h5 q
theorem zox (hr : ∀ i j, i < n → j < n → i ≠ j → r i ≠ r j) {p : Array Nat} (P : Pm n r p) {s : Shared} {Q : Nat × Array Nat → Shared → Prop} (h2 : 2 ≤ n) (hI : I s)
    (q : ∀ k p' s', I s' → k ≤ n → 1 ≤ k → Pm n r p' → Up r p' k → Q (k, p') s') : (kas_count n p).kasWp cmp Q s := by
  unfold kas_count
  rw [KasT.kasWp_bind]
  refine zmT hc P (n - 1) 1 s (Nat.le_refl _) (by omega) hI (Up.one (Nat.le_refl _)) fun k s' hs h3 h4 h5 h6 h7 => ?_
  by_cases hk : k = n
  · subst hk
    simp only [beq_self_eq_true, if_true]
    exact q _ p s' hs (Nat.le_refl _) h3 P h5
  · have e : (k == n) = false := by simpa using hk
    simp only [e, Bool.false_eq_true, if_false]
    by_cases h1 : k > 1
    · simp only [h1, if_true]
      refine hc _ _ _ s' (P.lt 0 (by omega)) (P.lt (k - 1) (by omega)) hs fun s'' hs' => ?_
      have e2 : decide (r (p.getD 0 0) < r (p.getD (k - 1) 0)) = true := decide_eq_true (h5 0 (k - 1) (by omega) (by omega))
      simp only [e2, if_true]
      exact q _ p s'' hs' h4 h3 P h5
    · have ek : k = 1 := by omega
      subst ek
      simp only [Nat.lt_irrefl, if_false, gt_iff_lt]
      exact zjF hc hr P h2 hs (h6.resolve_left hk) q
theorem zhl {p : Array Nat} (P : Pm n r p) {k : Nat} (hk : k < n) {Q : Nat → Shared → Prop} : ∀ (f l h : Nat) (s : Shared), h - l ≤ f → l ≤ h → h ≤ k → I s → (∀ i, i < l → kk r p i < kk r p k) → (∀ i, h ≤ i → i < k → kk r p k < kk r p i) → Up r p k →
    (∀ l s', I s' → l ≤ k → (∀ i, i < l → kk r p i < kk r p k) → (∀ i, l ≤ i → i < k → kk r p k < kk r p i) → Q l s') → (kas_place p k f l h).kasWp cmp Q s
  | 0, l, h, s, hf, h1, h2, hI, hl, hh, hu, q => q l s hI (by omega) hl fun i h3 h4 => hh i (by omega) h4
  | f + 1, l, h, s, hf, h1, h2, hI, hl, hh, hu, q => by
    unfold kas_place
    by_cases hge : l ≥ h
    · rw [if_pos hge]
      exact q l s hI (by omega) hl fun i h3 h4 => hh i (by omega) h4
    · rw [if_neg hge]
      refine hc _ _ _ s (P.lt k hk) (P.lt _ (by omega)) hI fun s' hI' => ?_
      by_cases hm : kk r p k < kk r p ((l + h) / 2)
      · have e : decide (r (p.getD k 0) < r (p.getD ((l + h) / 2) 0)) = true := decide_eq_true hm
        simp only [e, if_true]
        refine zhl P hk f l ((l + h) / 2) s' (by omega) (by omega) (by omega) hI' hl (fun i h3 h4 => ?_) hu q
        by_cases hi : i = (l + h) / 2
        · rw [hi]; exact hm
        · exact Int.lt_trans hm (hu _ _ (by omega) h4)
      · have e : decide (r (p.getD k 0) < r (p.getD ((l + h) / 2) 0)) = false := decide_eq_false hm
        simp only [e, Bool.false_eq_true, if_false]
        have hlt := P.lt' hk (by omega) (by omega) hm
        refine zhl P hk f ((l + h) / 2 + 1) h s' (by omega) (by omega) h2 hI' (fun i h3 => ?_) hh hu q
        by_cases hi : i = (l + h) / 2
        · rw [hi]; exact hlt
        · exact Int.lt_trans (hu i ((l + h) / 2) (by omega) (by omega)) hlt
omit hc in
theorem zil {p : Array Nat} {k d : Nat} (hk : k < p.size) (hd : d ≤ k) (i : Nat) : kk r (bubble p k d) i = if i = k - d then kk r p k else if k - d < i ∧ i ≤ k then kk r p (i - 1) else kk r p i := by
  have e := getElem?_bubble hk d hd i
  by_cases h : i = k - d
  · rw [if_pos h] at e ⊢
    simp only [kk, Array.getD_eq_getD_getElem?, e]
  · rw [if_neg h] at e ⊢
    by_cases h' : k - d < i ∧ i ≤ k
    · rw [if_pos h'] at e ⊢
      simp only [kk, Array.getD_eq_getD_getElem?, e]
    · rw [if_neg h'] at e ⊢
      simp only [kk, Array.getD_eq_getD_getElem?, e]
theorem zpH (hr : ∀ i j, i < n → j < n → i ≠ j → r i ≠ r j) {Q : Array Nat → Shared → Prop} : ∀ (f : Nat) (p : Array Nat) (k : Nat) (s : Shared), 1 ≤ k → k + f = n → Pm n r p → I s → Up r p k → (∀ p' s', I s' → Pm n r p' → Up r p' n → Q p' s') → (kas_bin f p k).kasWp cmp Q s
  | 0, p, k, s, h1, h2, P, hI, hu, q => q p s hI P (by rw [← h2]; exact hu)
  | f + 1, p, k, s, h1, h2, P, hI, hu, q => by
    unfold kas_bin
    rw [KasT.kasWp_bind]
    have hk : k < n := by omega
    refine zhl hc P hk k 0 k s (by omega) (Nat.zero_le _) (Nat.le_refl _) hI (fun i h => by omega) (fun i h3 h4 => by omega) hu fun l s' hI' hl h3 h4 => ?_
    have hks : k < p.size := by rw [P.size]; exact hk
    have P' : Pm n r (bubble p k (k - l)) := Pm.of hr ((bubble_perm p k _).trans P.perm)
    refine zpH hr f _ (k + 1) s' (by omega) (by omega) P' hI' (fun i j hij hj => ?_) q
    rw [zil hks (by omega), zil hks (by omega)]
    have ekl : k - (k - l) = l := by omega
    rw [ekl]
    by_cases hi : i = l
    · rw [if_pos hi, if_neg (by omega)]
      rw [if_pos (by omega)]
      exact h4 _ (by omega) (by omega)
    · rw [if_neg hi]
      by_cases hjl : j = l
      · rw [if_pos hjl, if_neg (by omega)]
        exact h3 i (by omega)
      · rw [if_neg hjl]
        by_cases hi2 : l < i ∧ i ≤ k
        · rw [if_pos hi2, if_pos (by omega)]
          exact hu _ _ (by omega) (by omega)
        · rw [if_neg hi2]
          by_cases hj2 : l < j ∧ j ≤ k
          · rw [if_pos hj2]
            by_cases he : i = j - 1
            · omega
            · exact hu _ _ (by omega) (by omega)
          · rw [if_neg hj2]
            exact hu _ _ (by omega) (by omega)
theorem zqQ (hr : ∀ i j, i < n → j < n → i ≠ j → r i ≠ r j) {s : Shared} {Q : Array Nat → Shared → Prop} (h2 : 2 ≤ n) (hI : I s) (q : ∀ p s', I s' → Pm n r p → Up r p n → Q p s') : (kas_sort n).kasWp cmp Q s := by
  unfold kas_sort
  rw [KasT.kasWp_bind]
  have P0 : Pm n r (List.toArray (List.range n)) := Pm.of hr (Array.Perm.refl _)
  refine zox hc hr P0 h2 hI fun k p s' hI' hk h1 P hu => ?_
  by_cases hlt : k < n
  · simp only [hlt, if_true]
    have e : max k 1 = k := by omega
    rw [e]
    exact zpH hc hr (n - k) p k s' h1 (by omega) P hI' hu q
  · simp only [hlt, if_false]
    have e : k = n := by omega
    exact q p s' hI' P (by rw [← e]; exact hu)
end
end L2.LW
set_option linter.all false
set_option maxHeartbeats 4000000
namespace L2.LW
open PySem PySem.Spec PySem.W PyProof.Rows
section
variable {prog : Program} {w : World} {A : Around} {E : Value → Shared → Prop} {s : Shared}
theorem zim {a : Addr} {vs : List Value} {n : Nat} {P : PySem.Fin → Shared → Prop} {κ : SortKind} (ho : s.heap.get? a = some (seqObj "list" vs.toArray n)) (h64 : vs.length < 64) {r : Nat → Int} (hr : ∀ i j, i < vs.length → j < vs.length → i ≠ j → r i ≠ r j)
    (hk : 2 ≤ vs.length → ∀ h' tk, (∀ b o, b ≠ a → s.heap.get? b = some o → h'.get? b = some o) → wpAny (model prog w) A (keyKind' vs.toArray) (fun κ' s' => κ' = κ ∧ ∃ tk', s' = { s with heap := h', toks := tk' }) (fun _ _ => False) { s with heap := h', toks := tk })
    (hc : ∀ i j h' tk (C : Bool → Shared → Prop), i < vs.length → j < vs.length → (∀ b o, b ≠ a → s.heap.get? b = some o → h'.get? b = some o) → (∀ tk', C (decide (r i < r j)) { s with heap := h', toks := tk' }) →
      wpAny (model prog w) A (keyLt' κ (vs.getD i Value.none) (vs.getD j Value.none)) C (fun _ _ => False) { s with heap := h', toks := tk })
    (h : ∀ p tk, Pm vs.length r p → Up r p vs.length → P (.done (.ret .none)) { s with heap := sortedHeap s.heap a vs (p.toList.map fun i => vs.getD i Value.none).toArray, toks := tk }) :
    wpAny (model prog w) A (Builtin.«list.sort» ⟨[.ref a], []⟩) P E s := by
  rw [list_sort_plain]
  have ha : a < s.heap.objs.size := Heap.lt_size ho
  refine wpAny_bind (listItems_at ho rfl ?_)
  refine wpAny_bind (listUpdate_at ho rfl ?_ (by rw [List.size_toArray, sizeLine_eq]; omega) (Nat.zero_le _))
  obtain ⟨e1, ho1⟩ : ∃ e1, (s.heap.update a (Obj.mapSeq fun _ => #[])).get? a = some (seqObj "list" #[] e1) := ⟨_, get?_update_seq ho (fun _ => #[])⟩
  refine wpAny_bind (seqEpoch_at ho1 rfl ?_)
  refine wpAny_bind (wpAny_newTuple ?_ (by show vs.length ≤ _; rw [sizeLine_eq]; omega))
  refine wpAny_bind (wpAny_newList ?_ (Nat.zero_le _))
  refine wpAny_holding ?_
  have ho6 : (((s.heap.update a (Obj.mapSeq fun _ => #[])).push (seqObj "tuple" vs.toArray 0)).push (seqObj "list" #[] 0)).get? a = some (seqObj "list" #[] e1) := by
    rw [Heap.get?_push_ne _ _ _ (by rw [size_push', Heap.size_update]; exact Nat.ne_of_lt (Nat.lt_succ_of_lt ha)), Heap.get?_push_ne _ _ _ (by rw [Heap.size_update]; exact Nat.ne_of_lt ha)]
    exact ho1
  have keep : ∀ b o, b ≠ a → s.heap.get? b = some o → (((s.heap.update a (Obj.mapSeq fun _ => #[])).push (seqObj "tuple" vs.toArray 0)).push (seqObj "list" #[] 0)).get? b = some o := fun b o hb e =>
    Heap.get?_push_of_some _ (Heap.get?_push_of_some _ (by rw [Heap.get?_update_ne _ _ _ _ hb]; exact e))
  show wpAny (model prog w) A _ P E { s with heap := ((s.heap.update a (Obj.mapSeq fun _ => #[])).push (seqObj "tuple" vs.toArray 0)).push (seqObj "list" #[] 0) }
  dsimp only
  have hsz : vs.toArray.size = vs.length := by simp
  have hid : Pm vs.length r (List.range vs.length).toArray := Pm.of hr (Array.Perm.refl _)
  by_cases h2 : vs.toArray.size < 2
  · rw [if_pos h2, if_pos h2]
    refine wpAny_bind (wpAny_pure ?_)
    rw [StateT.run_pure]
    refine wpAny_bind (wpAny_pure ?_)
    dsimp only
    refine wpAny_bind (seqEpoch_at ho6 rfl ?_)
    refine wpAny_bind (listUpdate_at ho6 rfl ?_ (Nat.zero_le _) (by rw [Array.size_map]; show (pairsOf vs).size ≤ _; rw [pairsOf_size, sizeLine_eq]; omega))
    simp only [bne_self_eq_false, Bool.false_eq_true, if_false]
    have hh := h (List.range vs.length).toArray s.toks hid (Up.one (by omega))
    have e : ((List.range vs.length).toArray.toList.map fun i => vs.getD i Value.none).toArray = (arrOf (SortSt.mk' general' (vs.toArray.zip vs.toArray) #[] 7 none)).map (·.2) := by
      show _ = (vs.toArray.zip vs.toArray).map (·.2)
      apply Array.toList_inj.mp
      simp
      apply List.ext_getElem
      · simp
      · intro i h1 h2; simp at h1; simp [h1]
    rw [e] at hh
    exact wpAny_pure hh
  · rw [if_neg h2, if_neg h2]
    rw [hsz] at h2
    have h2' : 2 ≤ vs.length := by omega
    refine wpAny_bind (wpAny_mono (hk h2' _ s.toks keep) (fun κ' s0 ⟨hκ, tk0, hs0⟩ => ?_) fun _ _ x => x.elim)
    subst hκ hs0
    refine wpAny_bind (wpAny_mono (kat_run (ks := vs) (Q := fun st' s' => ∃ (p : Array Nat) (tk : Nat), Pm vs.length r p ∧ Up r p vs.length ∧ arrOf st' = p.map (kas_item (vs.toArray.zip vs.toArray)) ∧ failedOf st' = Option.none ∧
        s' = { s with heap := ((s.heap.update a (Obj.mapSeq fun _ => #[])).push (seqObj "tuple" vs.toArray 0)).push (seqObj "list" #[] 0), toks := tk })
      (G := fun p s' => ∃ tk, Pm vs.length r p ∧ Up r p vs.length ∧ s' = { s with heap := ((s.heap.update a (Obj.mapSeq fun _ => #[])).push (seqObj "tuple" vs.toArray 0)).push (seqObj "list" #[] 0), toks := tk })
      rfl h2' h64 (fun p st' s' a1 a2 a3 ⟨tk, a4, a5, a6⟩ => ⟨p, tk, a4, a5, a2, a3, a6⟩) ?_) ?_ fun _ _ e => e)
    · exact zqQ (I := fun s' => ∃ tk, s' = { s with heap := ((s.heap.update a (Obj.mapSeq fun _ => #[])).push (seqObj "tuple" vs.toArray 0)).push (seqObj "list" #[] 0), toks := tk })
        (fun i j C s' hi hj zz6 q => by
          obtain ⟨tk, hs'⟩ := zz6
          subst hs'
          exact hc i j _ tk C hi hj keep fun tk' => q _ ⟨tk', rfl⟩) hr h2' ⟨tk0, rfl⟩ fun p s' ⟨tk, hs'⟩ hp hu => ⟨tk, hp, hu, hs'⟩
    · rintro ⟨⟨⟩, st'⟩ s' ⟨p, tk, hp, hu, har, hf, rfl⟩
      dsimp only
      have hout := kat_snds (ks := vs) (vs := vs) rfl har
      rw [hout]
      refine wpAny_bind (seqEpoch_at ho6 rfl ?_)
      refine wpAny_bind (listUpdate_at ho6 rfl ?_ (Nat.zero_le _) (by rw [List.size_toArray, List.length_map, Array.length_toList, hp.size, sizeLine_eq]; omega))
      rw [hf]
      simp only [bne_self_eq_false, Bool.false_eq_true, if_false]
      exact wpAny_pure (h p tk hp hu)
theorem zlp {l : Addr} {vs : List Value} {Q : Value → Shared → Prop} {κ : SortKind} (hl : s.heap.IsList l vs.toArray) (h64 : vs.length < 64) {r : Nat → Int} (hr : ∀ i j, i < vs.length → j < vs.length → i ≠ j → r i ≠ r j)
    (hk : 2 ≤ vs.length → ∀ h' tk, (∀ b o, s.heap.get? b = some o → h'.get? b = some o) → wpAny (model prog w) A.in1.in1 (keyKind' vs.toArray) (fun κ' s' => κ' = κ ∧ ∃ tk', s' = { s with heap := h', toks := tk' }) (fun _ _ => False) { s with heap := h', toks := tk })
    (hc : ∀ i j h' tk (C : Bool → Shared → Prop), i < vs.length → j < vs.length → (∀ b o, s.heap.get? b = some o → h'.get? b = some o) → (∀ tk', C (decide (r i < r j)) { s with heap := h', toks := tk' }) →
      wpAny (model prog w) A.in1.in1 (keyLt' κ (vs.getD i Value.none) (vs.getD j Value.none)) C (fun _ _ => False) { s with heap := h', toks := tk })
    (h : ∀ p tk, Pm vs.length r p → Up r p vs.length → Q (.ref (s.heap.objs.size + 1)) { s with heap := sortedAll s.heap vs (p.toList.map fun i => vs.getD i Value.none).toArray, toks := tk }) :
    wpAny (model prog w) A (call (.builtin "sorted") [.ref l]) Q E s := by
  refine Calls.call_function_entry kind_sorted plain_sorted entry_sorted (args_sorted1 _) ?_
  unfold Builtin.«sorted»
  refine wpAny_bind (m := checkCount "sorted" 1 1 _) (wpAny_pure ?_)
  refine wpAny_bind (collect_list hl ?_ (by rw [sizeLine_eq]; omega))
  refine wpAny_bind (wpAny_newList ?_ (by rw [sizeLine_eq]; omega))
  have hsz : ((s.heap.push (seqObj "list" #[] 0)).update s.heap.objs.size (Obj.mapSeq (· ++ vs.toArray))).objs.size = s.heap.objs.size + 1 := by
    rw [Heap.size_update, size_push']
  have hoL : (((s.heap.push (seqObj "list" #[] 0)).update s.heap.objs.size (Obj.mapSeq (· ++ vs.toArray))).push (seqObj "list" vs.toArray 0)).get? (s.heap.objs.size + 1) = some (seqObj "list" vs.toArray 0) := by
    rw [← hsz]; exact Heap.get?_push_size _ rfl
  have keep : ∀ b o, s.heap.get? b = some o → (((s.heap.push (seqObj "list" #[] 0)).update s.heap.objs.size (Obj.mapSeq (· ++ vs.toArray))).push (seqObj "list" vs.toArray 0)).get? b = some o := fun b o q => by
    have hlt : b < s.heap.objs.size := Heap.lt_size q
    rw [Heap.get?_push_ne _ _ _ (by rw [hsz]; exact Nat.ne_of_lt (Nat.lt_succ_of_lt hlt)), Heap.get?_update_ne _ _ _ _ (Nat.ne_of_lt hlt), Heap.get?_push_ne _ _ _ (Nat.ne_of_lt hlt)]
    exact q
  have nea : ∀ b o, s.heap.get? b = some o → b ≠ s.heap.objs.size + 1 := fun b o e => Nat.ne_of_lt (Nat.lt_succ_of_lt (Heap.lt_size e))
  show wpAny _ _ _ _ _ { s with heap := ((s.heap.push (seqObj "list" #[] 0)).update s.heap.objs.size (Obj.mapSeq (· ++ vs.toArray))).push (seqObj "list" vs.toArray 0) }
  rw [hsz]
  refine wpAny_bind (wpAny_holding (wpAny_call_entry slot_list_sort ⟨_, hoL, rfl⟩ entry_list_sort (zim (κ := κ) (r := r) hoL h64 hr (fun h2 h' tk hk' => ?_) (fun i j h' tk C hi hj hk' q => ?_) fun p tk hp hu => ⟨_, rfl, ?_⟩) (args_list_sort _)))
  · exact hk h2 h' tk fun b o e => hk' b o (nea b o e) (keep b o e)
  · exact hc i j h' tk C hi hj (fun b o e => hk' b o (nea b o e) (keep b o e)) q
  · exact wpAny_pure ⟨_, rfl, h p tk hp hu⟩
end
theorem zbw : ∀ x : List Int, LW.lexLt x x = false
  | [] => rfl
  | a :: x => by rw [LW.lexLt, if_pos rfl]; exact zbw x
theorem zch : ∀ {x y z : List Int}, LW.lexLt x y = true → LW.lexLt y z = true → LW.lexLt x z = true
  | x, [], _, h, _ => by cases x <;> simp [LW.lexLt] at h
  | _, _ :: _, [], _, h => by cases h
  | [], _ :: _, _ :: _, _, _ => rfl
  | a :: x, b :: y, c :: z, h1, h2 => by
    rw [LW.lexLt] at h1 h2 ⊢
    by_cases e1 : a = b
    · by_cases e2 : b = c
      · rw [if_pos e1] at h1
        rw [if_pos e2] at h2
        rw [if_pos (e1.trans e2)]
        exact zch h1 h2
      · rw [if_neg e2, decide_eq_true_iff] at h2
        rw [if_neg (by omega), decide_eq_true_iff]
        omega
    · rw [if_neg e1, decide_eq_true_iff] at h1
      by_cases e2 : b = c
      · rw [if_neg (by omega), decide_eq_true_iff]; omega
      · rw [if_neg e2, decide_eq_true_iff] at h2
        rw [if_neg (by omega), decide_eq_true_iff]; omega
theorem zcJ : ∀ {x y : List Int}, x ≠ y → LW.lexLt x y = true ∨ LW.lexLt y x = true
  | [], [], h => absurd rfl h
  | [], _ :: _, _ => .inl rfl
  | _ :: _, [], _ => .inr rfl
  | a :: x, b :: y, h => by
    rw [LW.lexLt, LW.lexLt]
    by_cases e : a = b
    · rw [if_pos e, if_pos e.symm]
      exact zcJ fun z => h (by rw [e, z])
    · rw [if_neg e, if_neg (fun z => e z.symm), decide_eq_true_iff, decide_eq_true_iff]
      omega
noncomputable abbrev lexP (x y : List Int) : Prop := LW.lexLt x y = true
theorem zfh (x : List Int) : ∀ l, (insT x l).Perm (x :: l)
  | [] => .refl _
  | y :: r => by
    unfold insT
    split
    · exact .refl _
    · exact ((zfh x r).cons y).trans (.swap x y r)
theorem zci : ∀ l, (zf6 l).Perm l
  | [] => .refl _
  | x :: r => (zfh x _).trans ((zci r).cons x)
theorem zmV {x : List Int} : ∀ {l : List (List Int)}, l.Pairwise lexP → (∀ y ∈ l, x ≠ y) → (insT x l).Pairwise lexP
  | [], _, _ => by simp [insT]
  | y :: r, h, hn => by
    rw [List.pairwise_cons] at h
    unfold insT
    split
    · rename_i hx
      rw [List.pairwise_cons, List.pairwise_cons]
      refine ⟨fun z hz => ?_, h⟩
      rcases List.mem_cons.mp hz with rfl | hz
      · exact hx
      · exact zch hx (h.1 z hz)
    · rename_i hx
      have hyx : lexP y x := (zcJ (hn y List.mem_cons_self)).resolve_left hx
      rw [List.pairwise_cons]
      refine ⟨fun z hz => ?_, zmV h.2 fun z hz => hn z (List.mem_cons_of_mem _ hz)⟩
      rcases List.mem_cons.mp ((zfh x r).mem_iff.mp hz) with rfl | hz
      · exact hyx
      · exact h.1 z hz
theorem zeT : ∀ {l : List (List Int)}, l.Nodup → (zf6 l).Pairwise lexP
  | [], _ => List.Pairwise.nil
  | x :: r, h => by
    rw [List.nodup_cons] at h
    exact zmV (zeT h.2) fun y hy e => h.1 ((zci r).mem_iff.mp (e ▸ hy))
theorem zjG : ∀ {l m : List (List Int)}, l.Perm m → l.Pairwise lexP → m.Pairwise lexP → l = m
  | [], m, h, _, _ => (List.Perm.nil_eq h)
  | x :: l, [], h, _, _ => by have := h.length_eq; simp at this
  | x :: l, y :: m, h, h1, h2 => by
    rw [List.pairwise_cons] at h1 h2
    have e : x = y := by
      rcases List.mem_cons.mp (h.mem_iff.mp List.mem_cons_self) with e | hx
      · exact e
      · rcases List.mem_cons.mp (h.mem_iff.mpr List.mem_cons_self) with e | hy
        · exact e.symm
        · have q1 := h2.1 x hx
          have q2 := h1.1 y hy
          have := zch q1 q2
          rw [zbw] at this; cases this
    subst e
    rw [zjG (List.Perm.cons_inv h) h1.2 h2.2]
noncomputable def rkT (ks : List (List Int)) (x : List Int) : Int := ((ks.filter fun y => LW.lexLt y x).length : Nat)
theorem zgE {ks : List (List Int)} {x y : List Int} (hx : x ∈ ks) (h : lexP x y) : rkT ks x < rkT ks y := by
  unfold rkT
  have key : ∀ l : List (List Int), (l.filter fun z => LW.lexLt z x).length ≤ (l.filter fun z => LW.lexLt z y).length ∧ (x ∈ l → (l.filter fun z => LW.lexLt z x).length < (l.filter fun z => LW.lexLt z y).length) := by
    intro l
    induction l with
    | nil => exact ⟨Nat.le_refl _, fun z => by cases z⟩
    | cons z l ih =>
      rw [List.filter_cons, List.filter_cons]
      by_cases h1 : LW.lexLt z x = true
      · have h2 := zch h1 h
        rw [if_pos h1, if_pos h2]
        simp only [List.length_cons]
        refine ⟨by omega, fun hz => ?_⟩
        rcases List.mem_cons.mp hz with rfl | hz
        · rw [zbw] at h1; cases h1
        · have := ih.2 hz; omega
      · rw [if_neg h1]
        by_cases h2 : LW.lexLt z y = true
        · rw [if_pos h2]
          simp only [List.length_cons]
          exact ⟨by omega, fun _ => by omega⟩
        · rw [if_neg h2]
          refine ⟨ih.1, fun hz => ?_⟩
          rcases List.mem_cons.mp hz with rfl | hz
          · exact absurd h h2
          · exact ih.2 hz
  have := (key ks).2 hx
  omega
theorem zhm {ks : List (List Int)} {x y : List Int} (hx : x ∈ ks) (hy : y ∈ ks) (hne : x ≠ y) : decide (rkT ks x < rkT ks y) = LW.lexLt x y := by
  rcases zcJ hne with h | h
  · have := zgE hx h
    rw [h, decide_eq_true_iff]; exact this
  · have h1 := zgE hy h
    have h2 : LW.lexLt x y = false := by
      cases e : LW.lexLt x y with
      | false => rfl
      | true => have := zch e h; rw [zbw] at this; cases this
    rw [h2, decide_eq_false_iff_not]; omega
section
variable {X : Cx} {pins : List (Addr × Obj)} {σ : St} {H : Hp} {s : Shared} {W : Addr → Prop}
noncomputable def zjH (h : Heap) (v : Value) (k : List Int) : Prop := ∃ a o its n, v = .ref a ∧ h.get? a = some o ∧ o.cls = .type "tuple" ∧ o.data = .seq its n ∧ IntsAre its.toList k
theorem zjI (I : Inv X pins σ H s) : ∀ {ds : List D} {xs : List V} {us : List Value} {ks : List (List Int)}, Reps X.K W H ds xs → Vals xs us → tups? ds = some ks → Paired (zjH s.heap) us ks
  | _, _, _, ks, .nil, r, e => by cases r; simp [tups?] at e; subst e; exact .nil
  | _, _, _, ks, .cons h t, r, e => by
    cases r with
    | cons r1 r2 =>
      cases h with
      | tup hH rp =>
        simp only [tups?, jo1, jo2] at e
        obtain ⟨k, e1, ks', e2, rfl⟩ := e
        refine .cons ?_ (zjI I t r2 e2)
        cases r1
        obtain ⟨its, rv, ⟨o, ho, hc, n, hd⟩, _⟩ := I.tuple (.of hH)
        rw [rp.ofInts e1] at rv
        exact ⟨_, o, its.toArray, n, rfl, ho, hc, hd, by simpa using zbR rv⟩
      | _ => simp [tups?] at e
theorem zcK {α β : Type} {F : α → β → Prop} : ∀ {xs : List α} {ys : List β} {i : Nat}, Paired F xs ys → i < xs.length → ∃ x y, xs[i]? = some x ∧ ys[i]? = some y ∧ F x y
  | _, _, _, .nil, h => by simp at h
  | _, _, 0, .cons h _, _ => ⟨_, _, rfl, rfl, h⟩
  | _, _, i + 1, .cons _ t, h => by
    obtain ⟨x, y, h1, h2, h3⟩ := zcK (i := i) t (by simpa using h)
    exact ⟨x, y, by simpa using h1, by simpa using h2, h3⟩
theorem zej {h : Heap} : ∀ {us : List Value} {ks : List (List Int)}, Paired (zjH h) us ks → (∀ k ∈ ks, k ≠ []) → ∃ fs, KatTups h us fs ∧ fs.length = us.length ∧ ∀ v ∈ fs, ∃ i t, v = Value.int i t
  | _, _, .nil, _ => ⟨[], .nil, rfl, fun _ z => by cases z⟩
  | _, _, .cons hx t, hn => by
    obtain ⟨fs, h1, h2, h3⟩ := zej t fun k hk => hn k (List.mem_cons_of_mem _ hk)
    obtain ⟨a, o, its, n, rfl, ho, hc, hd, hi⟩ := hx
    have hne := hn _ List.mem_cons_self
    cases hi' : its.toList with
    | nil => rw [hi'] at hi; cases hi; exact absurd rfl hne
    | cons v r =>
      rw [hi'] at hi
      cases hi with
      | cons i t' hr =>
        refine ⟨.int i t' :: fs, .cons ho hc hd (by rw [← Array.getElem?_toList, hi']; rfl) h1, by simp [h2], fun v hv => ?_⟩
        rcases List.mem_cons.mp hv with rfl | hv
        · exact ⟨_, _, rfl⟩
        · exact h3 v hv
theorem zdq {prog : Program} {w : World} {A : Around} {Q : Bool → Shared → Prop} {s : Shared} {fin : Bool} : ∀ {us vs : List Value} {x y : List Int} (i : Nat), IntsAre us x → IntsAre vs y → (fin = decide (us.length < vs.length)) → Q (LW.lexLt x y) s → KatLex prog w A true fin Q (us.zip vs) i s
  | _, _, _, _, i, .nil, hv, hf, q => by
    cases hv with
    | nil => subst hf; exact kat_nil q
    | cons j t hv => subst hf; exact kat_nil q
  | _, _, _, _, i, .cons a t hu, hv, hf, q => by
    cases hv with
    | nil => subst hf; exact kat_nil q
    | cons b t' hv =>
      refine kat_cons (wpAny_eqBool_int ?_)
      by_cases e : a = b
      · subst e
        have : (a == a) = true := by simp
        rw [this]
        refine kat_yes (zdq (i + 1) hu hv (by rw [hf]; simp) ?_)
        rw [LW.lexLt, if_pos rfl] at q
        exact q
      · have : (a == b) = false := by simpa using e
        rw [this]
        refine kat_no ?_
        rw [LW.lexLt, if_neg e] at q
        cases i with
        | zero => exact oneLt_int q
        | succ i =>
          have e2 : (true && (i + 1 == 0)) = false := rfl
          rw [e2]
          exact kat_one _ _ (lt_int q)
theorem zaP {α : Type} {l : List α} {i : Nat} {x d : α} (h : l[i]? = some x) : l.getD i d = x := by
  rw [List.getD_eq_getElem?_getD, h]; rfl
theorem zin {xs : List V} {us : List Value} (r : Vals xs us) (p : List Nat) (hp : ∀ i ∈ p, i < us.length) : Vals (p.map fun i => xs.getD i .non) (p.map fun i => us.getD i Value.none) := by
  induction p with
  | nil => exact .nil
  | cons i p ih =>
    refine .cons ?_ (ih fun j hj => hp j (List.mem_cons_of_mem _ hj))
    have hi := hp i List.mem_cons_self
    have hl := r.length
    obtain ⟨u, h1, h2⟩ := r.get (i := i) (x := xs[i]'(by omega)) (by simp)
    show RelV (xs.getD i .non) (us.getD i Value.none)
    rw [zaP h1, zaP (x := xs[i]'(by omega)) (by simp)]
    exact h2
theorem zio {ds : List D} {xs : List V} (r : Reps X.K W H ds xs) (p : List Nat) (hp : ∀ i ∈ p, i < ds.length) : Reps X.K W H (p.map fun i => ds.getD i .non) (p.map fun i => xs.getD i .non) := by
  induction p with
  | nil => exact .nil
  | cons i p ih =>
    refine .cons ?_ (ih fun j hj => hp j (List.mem_cons_of_mem _ hj))
    have hi := hp i List.mem_cons_self
    obtain ⟨x, h1, h2⟩ := r.get (i := i) (d := ds[i]) (by simp)
    show Rep X.K W H (ds.getD i .non) (xs.getD i .non)
    rw [zaP h1, zaP (x := ds[i]) (by simp)]
    exact h2
theorem zmW : ∀ {ds : List D} {ks : List (List Int)}, tups? ds = some ks → ds = ks.map kT
  | [], ks, e => by simp [tups?] at e; subst e; rfl
  | d :: r, ks, e => by
    cases d with
    | tup l =>
      simp only [tups?, jo1, jo2] at e
      obtain ⟨k, e1, ks', e2, rfl⟩ := e
      rw [zmW e2, zdp e1]; rfl
    | _ => simp [tups?] at e
theorem zmX : CallR X (.builtin "sorted") (VR X.K (zaj .sorted)) := by
  rintro pins s σ H xs us Q I rv ⟨W, ds, r, wf, hs, hf, q⟩
  replace hf : zjq ds = some r := hf
  unfold zjq at hf
  split at hf
  case h_2 => cases hf
  rename_i l
  unfold ze7 at hf
  split at hf
  · rename_i ns e1
    split at hf
    · rename_i h64
      cases hf
      exact zln (ds := [.lst l]) I rv hs e1 h64 q
    · cases hf
  · rw [jo1] at hf
    obtain ⟨ks, e1, hf⟩ := hf
    split at hf
    case isFalse => cases hf
    rename_i hcond
    cases hf
    obtain ⟨h64, hnd, hne⟩ := hcond
    have hne' : ∀ k ∈ ks, k ≠ [] := fun k hk e => by
      have := List.all_eq_true.mp hne k hk
      rw [e] at this; cases this
    cases hs with
    | cons h1 t =>
      cases t
      obtain ⟨p, ys, rfl, hp, rp⟩ := h1.lst
      obtain ⟨u, rfl, ru⟩ := zf3 rv
      cases ru
      obtain ⟨its, rv', pl, hz⟩ := I.list hp
      have hT := zjI I rp rv' e1
      have hlen : its.length = ks.length := Paired.length hT
      have hl2 := rp.length
      have hl3 := rv'.length
      let r : Nat → Int := fun i => rkT ks (ks.getD i [])
      have memk : ∀ i, i < its.length → ks.getD i [] ∈ ks := fun i hi => by
        rw [zaP (x := ks[i]'(by omega)) (by simp)]; exact List.getElem_mem _
      have injk : ∀ i j, i < its.length → j < its.length → i ≠ j → ks.getD i [] ≠ ks.getD j [] := fun i j hi hj ne e => by
        rw [zaP (x := ks[i]'(by omega)) (by simp), zaP (x := ks[j]'(by omega)) (by simp)] at e
        exact ne ((List.getElem_inj hnd).mp e)
      have zco : ∀ {h' : Heap}, (∀ b o, s.heap.get? b = some o → h'.get? b = some o) → ∀ {v : Value} {k : List Int}, zjH s.heap v k → zjH h' v k := by
        intro h' hk v k ⟨a, o, i, n, h1, h2, h3⟩
        exact ⟨a, o, i, n, h1, hk _ _ h2, h3⟩
      refine zlp (κ := tuples' (Value.type "int" != Value.type "tuple")) (r := r) pl.isList (by omega) (fun i j hi hj ne e => ?_) (fun h2 h' tk hk => ?_) (fun i j h' tk C hi hj hk qC => ?_) fun pm tk hpm hup => ?_
      · rcases zcJ (injk i j hi hj ne) with z | z
        · have := zgE (memk i hi) z
          have e : rkT ks (ks.getD i []) = rkT ks (ks.getD j []) := e
          omega
        · have := zgE (memk j hj) z
          have e : rkT ks (ks.getD i []) = rkT ks (ks.getD j []) := e
          omega
      · obtain ⟨fs, f1, f2, f3⟩ := zej (Paired.imp' (fun v k z => zco hk z) hT) hne'
        exact kat_kind (s := { s with heap := h', toks := tk }) f1 (by omega) (fun v hv => by obtain ⟨i, t, rfl⟩ := f3 v hv; exact Looks.of_pure rfl) (by simp) ⟨rfl, tk, rfl⟩
      · obtain ⟨x1, k1, a1, a2, a3⟩ := zcK hT hi
        obtain ⟨x2, k2, b1, b2, b3⟩ := zcK hT hj
        rw [zaP a1, zaP b1]
        obtain ⟨a, o, i1, n, rfl, c1, c2, c3, c4⟩ := zco hk a3
        obtain ⟨b, o', i2, n', rfl, d1, d2, d3, d4⟩ := zco hk b3
        have er : decide (r i < r j) = LW.lexLt k1 k2 := by
          show decide (rkT ks (ks.getD i []) < rkT ks (ks.getD j [])) = _
          by_cases e : i = j
          · subst e
            rw [a2] at b2; cases b2
            rw [zbw]; simp
          · have := zhm (memk i hi) (memk j hj) (injk i j hi hj e)
            rw [zaP a2, zaP b2] at this
            rw [zaP a2, zaP b2]
            exact this
        rw [er] at qC
        refine kat_lt (s := { s with heap := h', toks := tk }) c1 c3 d1 d3 ?_
        exact zdq 0 c4 d4 (by simp) (qC tk)
      · obtain ⟨e, he⟩ := sortedAll_at s.heap its (pm.toList.map fun i => its.getD i Value.none).toArray
        have hlt : ∀ i ∈ pm.toList, i < its.length := fun i hi => by
          have := (Array.perm_iff_toList_perm.mp hpm.perm).mem_iff.mp hi
          simpa using this
        have fr : H (s.heap.objs.size + 1) = Option.none := I.hok.fresh (Nat.le_succ _)
        have hperm : (pm.toList.map fun i => ks.getD i []).Perm ks := by
          have h1 := (Array.perm_iff_toList_perm.mp hpm.perm).map fun i => ks.getD i []
          refine h1.trans (List.Perm.of_eq ?_)
          apply List.ext_getElem
          · simp [hlen]
          · intro i h1 h2; simp at h1; simp [h1, h2]
        have hupk : (pm.toList.map fun i => ks.getD i []).Pairwise lexP := by
          rw [List.pairwise_iff_getElem]
          intro i j hi hj hij
          rw [List.length_map, Array.length_toList, hpm.size] at hi hj
          have h1 := hup i j hij (by omega)
          have li := hpm.lt i hi
          have lj := hpm.lt j hj
          simp only [List.getElem_map, Array.getElem_toList]
          have gi : pm.getD i 0 = pm[i]'(by rw [hpm.size]; exact hi) := by simp [Array.getD, hpm.size, hi]
          have gj : pm.getD j 0 = pm[j]'(by rw [hpm.size]; exact hj) := by simp [Array.getD, hpm.size, hj]
          unfold kk at h1
          rw [gi] at h1 li
          rw [gj] at h1 lj
          have hne : pm[i]'(by rw [hpm.size]; exact hi) ≠ pm[j]'(by rw [hpm.size]; exact hj) := fun z => by rw [z] at h1; omega
          have := zhm (memk _ li) (memk _ lj) (injk _ _ li lj hne)
          show LW.lexLt _ _ = true
          rw [← this, decide_eq_true_iff]
          exact h1
        have heq : (pm.toList.map fun i => ks.getD i []) = zf6 ks := zjG (hperm.trans (zci ks).symm) hupk (zeT hnd)
        have hds : (pm.toList.map fun i => l.getD i .non) = (zf6 ks).map kT := by
          rw [← heq, List.map_map]
          apply List.map_congr_left
          intro i hi
          have hi' := hlt i hi
          rw [zmW e1]
          show (ks.map kT).getD i .non = kT (ks.getD i [])
          rw [zaP (x := kT (ks[i]'(by omega))) (by simp [show i < ks.length by omega]), zaP (x := ks[i]'(by omega)) (by simp)]
        have hrep := zio rp pm.toList fun i hi => by have := hlt i hi; omega
        rw [hds] at hrep
        have hvals := zin rv' pm.toList fun i hi => hlt i hi
        refine ⟨.ref (s.heap.objs.size + 1), upd H (s.heap.objs.size + 1) (.lst (pm.toList.map fun i => ys.getD i .non)), I.laid (t' := tk) (fun _ _ => sortedAll_old) (Nat.le_succ _) ⟨?_, _, e, hvals, ?_⟩, rfl, q _ _ (za1 fr _) (zed fr hrep)⟩
        · rw [List.length_map, Array.length_toList, hpm.size]; exact Nat.le_of_lt (zcC (by omega))
        · simpa [seqObj] using he
end
end L2.LW
set_option linter.all false
set_option maxHeartbeats 4000000
set_option linter.all false
set_option maxHeartbeats 4000000
namespace L2.LW
open PySem PySem.Spec PySem.W PySem.Calls PyProof.Rows
noncomputable def RawD (h : Heap) (d : Addr) (tb : Array DictEntry) (ep : Nat) : Prop := ∃ o, h.get? d = some o ∧ o.ExactDict ∧ o.data = .dict tb ep
section
variable {prog : Program} {w : World} {A : Around} {E : Value → Shared → Prop} {s : Shared} {it d : Addr} {k ep : Nat} {tb : Array DictEntry} {Q : Option Value → Shared → Prop}
theorem zoy (hi : s.heap.IsKeyIter it d k tb.size ep) (hr : RawD s.heap d tb ep) (lt : k < tb.size)
    (q : ∀ h2, h2.IsKeyIter it d (k + 1) tb.size ep → Heap.SameBut it s.heap h2 → Q (some tb[k].key) { s with heap := h2 }) : wpAny (model prog w) A (pyNext (.ref it)) Q E s := by
  obtain ⟨oi, ei, ci, di⟩ := id hi
  obtain ⟨ot, et, ct, dt⟩ := id hr
  unfold pyNext
  refine wpAny_bind (wpAny_attempt (wpAny_callSpecial?_slot (name := Str.ofString "__next__") hi.typeIs PySem.F.slot_dict_keyiterator_next (wpAny_call_entry PySem.F.slot_dict_keyiterator_next hi.typeIs PySem.F.entry_dict_keyiterator_next ?_ (PySem.F.args_dict_keyiterator_next_1 _))))
  refine wpAny_bind (wpAny_pure (wpAny_bind (wpAny_bind ?_)))
  first | refine wpAny_bind (wpAny_typeNameOfWhole_keyiter hi.typeIs (wpAny_pure (wpAny_bind (wpAny_fieldsOf ei di ?_)))) | refine wpAny_bind (wpAny_typeNameOf_keyiter hi.typeIs (wpAny_pure (wpAny_bind (wpAny_fieldsOf ei di ?_))))
  have own : Builtin.Dict_items.ownsTuple "dict_keyiterator" = false := rfl
  simp only [own, Bool.false_eq_true, if_false]
  show wpAny _ _ (if (Value.ref d == Value.none) = true then _ else _) _ _ s
  rw [if_neg (by intro z; cases z)]
  refine wpAny_bind (wpAny_pure (wpAny_bind (wpAny_dictEntries et dt ?_)))
  rw [if_neg (by simp)]
  refine wpAny_bind (wpAny_pure (wpAny_bind (wpAny_dictEpoch et dt ?_)))
  rw [if_neg (by simp)]
  have nn : ¬ ((k : Int) < 0) := by omega
  refine wpAny_pure ?_
  simp only [nn, if_false, Int.toNat_natCast, Array.getElem?_eq_getElem lt]
  refine wpAny_bind ?_
  first | refine wpAny_bind (wpAny_typeNameOfWhole_keyiter hi.typeIs (wpAny_pure (wpAny_bind (wpAny_isOneOf_keyiter hi.typeIs ?_)))) | refine wpAny_bind (wpAny_typeNameOf_keyiter hi.typeIs (wpAny_pure (wpAny_bind (wpAny_isOneOf_keyiter hi.typeIs ?_))))
  show wpAny _ _ (setField (.ref it) 1 (rawInt ((k : Int) + 1)) >>= _) _ _ s
  have hi2 : (s.heap.update it (Obj.mapFields fun fs => fs.setIfInBounds 1 (rawInt ((k : Int) + 1)))).IsKeyIter it d (k + 1) tb.size ep :=
    ⟨_, Heap.get?_update_self _ ei (Obj.isFreed_of_fields (Obj.data_mapFields di _)), (Obj.cls_mapFields ..).trans ci, by rw [Obj.data_mapFields di]; simp [rawInt]⟩
  refine wpAny_bind (wpAny_setField ei di (by simp) (wpAny_bind (wpAny_holding (wpAny_bind (wpAny_isOneOf_keyiter (s := { s with heap := s.heap.update it (Obj.mapFields fun fs => fs.setIfInBounds 1 (rawInt ((k : Int) + 1))) }) hi2.typeIs ?_)))))
  show wpAny _ _ (pure tb[k].key) _ _ _
  exact wpAny_pure (wpAny_pure ⟨_, rfl, wpAny_pure (q _ hi2 (Heap.SameBut.update ..))⟩)
theorem zqR (hh : A.handled = none) (hi : s.heap.IsKeyIter it d tb.size tb.size ep) (hr : RawD s.heap d tb ep) (q : ∀ h2, Heap.ExtBut it s.heap h2 → Q none { s with heap := h2 }) : wpAny (model prog w) A (pyNext (.ref it)) Q E s := by
  obtain ⟨oi, ei, ci, di⟩ := id hi
  obtain ⟨ot, et, ct, dt⟩ := id hr
  unfold pyNext
  refine wpAny_bind (wpAny_attempt (wpAny_callSpecial?_slot (name := Str.ofString "__next__") hi.typeIs PySem.F.slot_dict_keyiterator_next (wpAny_call_entry PySem.F.slot_dict_keyiterator_next hi.typeIs PySem.F.entry_dict_keyiterator_next ?_ (PySem.F.args_dict_keyiterator_next_1 _))))
  refine wpAny_bind (wpAny_pure (wpAny_bind (wpAny_bind ?_)))
  first | refine wpAny_bind (wpAny_typeNameOfWhole_keyiter hi.typeIs (wpAny_pure (wpAny_bind (wpAny_fieldsOf ei di ?_)))) | refine wpAny_bind (wpAny_typeNameOf_keyiter hi.typeIs (wpAny_pure (wpAny_bind (wpAny_fieldsOf ei di ?_))))
  have own : Builtin.Dict_items.ownsTuple "dict_keyiterator" = false := rfl
  simp only [own, Bool.false_eq_true, if_false]
  show wpAny _ _ (if (Value.ref d == Value.none) = true then _ else _) _ _ s
  rw [if_neg (by intro z; cases z)]
  refine wpAny_bind (wpAny_pure (wpAny_bind (wpAny_dictEntries et dt ?_)))
  rw [if_neg (by simp)]
  refine wpAny_bind (wpAny_pure (wpAny_bind (wpAny_dictEpoch et dt ?_)))
  rw [if_neg (by simp)]
  have nn : ¬ ((tb.size : Int) < 0) := by omega
  refine wpAny_pure ?_
  simp only [nn, if_false, Int.toNat_natCast, Array.getElem?_eq_none (Nat.le_refl tb.size)]
  refine wpAny_bind ?_
  first | refine wpAny_bind (wpAny_typeNameOfWhole_keyiter hi.typeIs (wpAny_pure ?_)) | refine wpAny_bind (wpAny_typeNameOf_keyiter hi.typeIs (wpAny_pure ?_))
  show wpAny _ _ (setField (.ref it) 0 .none >>= _) _ _ s
  refine wpAny_bind (wpAny_setField ei di (by simp) ?_)
  show wpAny _ _ (newExc (.type "StopIteration") [] >>= _) _ _ _
  simp only [newExc, newTuple]
  refine wpAny_bind (wpAny_bind (wpAny_newObj_type (wpAny_bind (m := firstArgMember _ _) (wpAny_of_eq (a := Value.none) (by first | rfl | (simp only [firstArgMember]; rfl)) (wpAny_newObj_type ?_ (by size_fits)))) (by size_fits)))
  simp only [raiseNew]
  refine wpAny_bind (wpAny_handled ?_)
  rw [show A.in1.handled = none from hh]
  refine wpAny_bind (wpAny_pure (wpAny_throw ?_))
  refine wpAny_bind (wpAny_isInstance (b := true) (T := "StopIteration") ⟨_, Heap.get?_push_size _ rfl, rfl⟩ isSubtype_stop ?_)
  exact wpAny_pure (q _ (((Heap.SameBut.update ..).extBut.push _).push _))
end
theorem RawD.at {h h2 : Heap} {d : Addr} {tb : Array DictEntry} {ep : Nat} (x : RawD h d tb ep) (e : ∀ o, h.get? d = some o → h2.get? d = some o) : RawD h2 d tb ep := let ⟨o, ho, r⟩ := x; ⟨o, e _ ho, r⟩
theorem RawD.lt {h : Heap} {d : Addr} {tb : Array DictEntry} {ep : Nat} (x : RawD h d tb ep) : d < h.objs.size := let ⟨_, ho, _⟩ := x; Heap.lt_size ho
section
variable {prog : Program} {w : World}
theorem zmY {A : Around} (hh : A.handled = none) (I d : Addr) (hne : d ≠ I) (tb : Array DictEntry) (ep : Nat) :
    Walks prog w A I [I, d] [I] tb.size (fun i v => ∃ e, tb[i]? = some e ∧ v = e.key) (fun i h => h.IsKeyIter I d i tb.size ep ∧ RawD h d tb ep) where
  sub := fun b hb => by rw [List.mem_singleton] at hb; rw [hb]; exact List.mem_cons_self
  frame := fun _ _ _ st hk => ⟨st.1.at fun o e => hk I List.mem_cons_self o e, st.2.at fun o e => hk d (List.mem_cons_of_mem _ List.mem_cons_self) o e⟩
  item := fun i s Q E lt st q => zoy st.1 st.2 lt fun h2 hi2 sb =>
    q _ h2 s.toks ⟨tb[i], Array.getElem?_eq_getElem lt, rfl⟩ ⟨hi2, st.2.at fun o e => sb.extBut d o hne e⟩ fun b o hb e => sb.extBut b o (fun z => hb (by rw [z]; exact List.mem_cons_self)) e
  done := fun s Q E st q => zqR hh st.1 st.2 fun h2 eb => q h2 s.toks fun b o hb e => eb b o (fun z => hb (by rw [z]; exact List.mem_cons_self)) e
  self := fun _ _ _ _ st q => wpAny_pyIter_keyiter st.1 q
theorem zoz {A : Around} {E : Value → Shared → Prop} {s : Shared} {v d : Addr} {tb : Array DictEntry} {ep : Nat} {Q : Value → Shared → Prop} (hv : KdlKeysView s.heap v d) (hr : RawD s.heap d tb ep)
    (q : Q (.ref s.heap.objs.size) { s with heap := s.heap.push { cls := .type "dict_keyiterator", data := .fields #[.ref d, .int 0 0, .int tb.size 0, .int ep 0] } }) : wpAny (model prog w) A (pyIter (.ref v)) Q E s := by
  obtain ⟨ov, e1, c1, d1⟩ := id hv
  obtain ⟨ot, et, ct, dt⟩ := id hr
  refine wpAny_pyIter_slot hv.typeIs kdl_slot_keys_iter (wpAny_call_entry kdl_slot_keys_iter hv.typeIs kdl_entry_keys_iter ?_ (kdl_args_keys_iter _))
  unfold Builtin.«dict_keys.__iter__»
  refine wpAny_bind (wpAny_pure (wpAny_bind ?_))
  unfold Builtin.Dict_items.dictOf
  refine wpAny_bind (wpAny_field e1 d1 (x := .ref d) rfl (wpAny_pure (wpAny_bind ?_)))
  unfold Builtin.Dict_items.newIterator
  refine wpAny_bind (wpAny_dictEntries et dt (wpAny_bind (wpAny_dictEpoch et dt ?_)))
  have own : Builtin.Dict_items.ownsTuple "dict_keyiterator" = false := rfl
  simp only [own, Bool.false_eq_true, if_false]
  exact wpAny_newObj_type (wpAny_pure ⟨_, rfl, "dict_keyiterator", _, ⟨_, Heap.get?_push_size _ rfl, rfl⟩, PySem.F.slot_dict_keyiterator_next.lookup, q⟩)
theorem zqS {r d : Addr} {tb : Array DictEntry} {ep : Nat} : KdlSrc prog w "dict_keys" r d tb.size (fun i v => ∃ e, tb[i]? = some e ∧ v = e.key) (fun h => KdlKeysView h r d ∧ RawD h d tb ep) where
  type := fun _ x => x.1.typeIs
  there := fun _ x => ⟨let ⟨_, ho, _⟩ := x.1; Heap.lt_size ho, x.2.lt⟩
  keep := fun _ _ x hk => ⟨let ⟨o, ho, y⟩ := x.1; ⟨o, hk r (.inl rfl) o ho, y⟩, x.2.at fun o e => hk d (.inr rfl) o e⟩
  notList := rfl
  notTuple := rfl
  hint := fun _ _ _ _ x q => kdl_hint_keys x.1.typeIs q
  iter := fun _ _ hh x => ⟨_, _, fun _ _ q => zoz x.1 x.2 q, zmY hh _ d (Nat.ne_of_lt x.2.lt) tb ep, ⟨_, Heap.get?_push_size _ rfl, rfl, rfl⟩, x.2.at fun o e => Heap.get?_push_of_some _ e⟩
end
end L2.LW
set_option linter.all false
set_option maxHeartbeats 4000000
namespace L2.LW
open PySem PySem.Spec PySem.W PySem.Calls PyProof.Rows
theorem zco {h h' : Heap} (hk : ∀ b o, h.get? b = some o → h'.get? b = some o) {v : Value} {k : List Int} : zjH h v k → zjH h' v k := fun ⟨a, o, i, n, h1, h2, h3⟩ => ⟨a, o, i, n, h1, hk _ _ h2, h3⟩
theorem zlq {prog : Program} {w : World} {A : Around} {s : Shared} {its : List Value} {ks : List (List Int)} (hT : Paired (zjH s.heap) its ks) (hnd : ks.Nodup) (hne' : ∀ k ∈ ks, k ≠ []) :
    ∃ r : Nat → Int, (∀ i j, i < its.length → j < its.length → i ≠ j → r i ≠ r j) ∧
      (2 ≤ its.length → ∀ h' tk, (∀ b o, s.heap.get? b = some o → h'.get? b = some o) → wpAny (model prog w) A (keyKind' its.toArray) (fun κ' s' => κ' = tuples' (Value.type "int" != Value.type "tuple") ∧ ∃ tk', s' = { s with heap := h', toks := tk' }) (fun _ _ => False) { s with heap := h', toks := tk }) ∧
      (∀ i j h' tk (C : Bool → Shared → Prop), i < its.length → j < its.length → (∀ b o, s.heap.get? b = some o → h'.get? b = some o) → (∀ tk', C (decide (r i < r j)) { s with heap := h', toks := tk' }) →
        wpAny (model prog w) A (keyLt' (tuples' (Value.type "int" != Value.type "tuple")) (its.getD i Value.none) (its.getD j Value.none)) C (fun _ _ => False) { s with heap := h', toks := tk }) ∧
      ∀ pm, Pm its.length r pm → Up r pm its.length → (pm.toList.map fun i => ks.getD i []) = zf6 ks ∧ ∀ i ∈ pm.toList, i < its.length := by
  have hlen : its.length = ks.length := Paired.length hT
  let r : Nat → Int := fun i => rkT ks (ks.getD i [])
  have memk : ∀ i, i < its.length → ks.getD i [] ∈ ks := fun i hi => by
    rw [zaP (x := ks[i]'(by omega)) (by simp)]; exact List.getElem_mem _
  have injk : ∀ i j, i < its.length → j < its.length → i ≠ j → ks.getD i [] ≠ ks.getD j [] := fun i j hi hj ne e => by
    rw [zaP (x := ks[i]'(by omega)) (by simp), zaP (x := ks[j]'(by omega)) (by simp)] at e
    exact ne ((List.getElem_inj hnd).mp e)
  refine ⟨r, fun i j hi hj ne e => ?_, fun h2 h' tk hk => ?_, fun i j h' tk C hi hj hk qC => ?_, fun pm hpm hup => ?_⟩
  · rcases zcJ (injk i j hi hj ne) with z | z
    · have := zgE (memk i hi) z
      have e : rkT ks (ks.getD i []) = rkT ks (ks.getD j []) := e
      omega
    · have := zgE (memk j hj) z
      have e : rkT ks (ks.getD i []) = rkT ks (ks.getD j []) := e
      omega
  · obtain ⟨fs, f1, f2, f3⟩ := zej (Paired.imp' (fun v k z => zco hk z) hT) hne'
    exact kat_kind (s := { s with heap := h', toks := tk }) f1 (by omega) (fun v hv => by obtain ⟨i, t, rfl⟩ := f3 v hv; exact Looks.of_pure rfl) (by simp) ⟨rfl, tk, rfl⟩
  · obtain ⟨x1, k1, a1, a2, a3⟩ := zcK hT hi
    obtain ⟨x2, k2, b1, b2, b3⟩ := zcK hT hj
    rw [zaP a1, zaP b1]
    obtain ⟨a, o, i1, n, rfl, c1, c2, c3, c4⟩ := zco hk a3
    obtain ⟨b, o', i2, n', rfl, d1, d2, d3, d4⟩ := zco hk b3
    have er : decide (r i < r j) = LW.lexLt k1 k2 := by
      show decide (rkT ks (ks.getD i []) < rkT ks (ks.getD j [])) = _
      by_cases e : i = j
      · subst e
        rw [a2] at b2; cases b2
        rw [zbw]; simp
      · have := zhm (memk i hi) (memk j hj) (injk i j hi hj e)
        rw [zaP a2, zaP b2] at this
        rw [zaP a2, zaP b2]
        exact this
    rw [er] at qC
    refine kat_lt (s := { s with heap := h', toks := tk }) c1 c3 d1 d3 ?_
    exact zdq 0 c4 d4 (by simp) (qC tk)
  · have hlt : ∀ i ∈ pm.toList, i < its.length := fun i hi => by
      have := (Array.perm_iff_toList_perm.mp hpm.perm).mem_iff.mp hi
      simpa using this
    have hperm : (pm.toList.map fun i => ks.getD i []).Perm ks := by
      have h1 := (Array.perm_iff_toList_perm.mp hpm.perm).map fun i => ks.getD i []
      refine h1.trans (List.Perm.of_eq ?_)
      apply List.ext_getElem
      · simp [hlen]
      · intro i h1 h2; simp at h1; simp [h1, h2]
    have hupk : (pm.toList.map fun i => ks.getD i []).Pairwise lexP := by
      rw [List.pairwise_iff_getElem]
      intro i j hi hj hij
      rw [List.length_map, Array.length_toList, hpm.size] at hi hj
      have h1 := hup i j hij (by omega)
      have li := hpm.lt i hi
      have lj := hpm.lt j hj
      simp only [List.getElem_map, Array.getElem_toList]
      have gi : pm.getD i 0 = pm[i]'(by rw [hpm.size]; exact hi) := by simp [Array.getD, hpm.size, hi]
      have gj : pm.getD j 0 = pm[j]'(by rw [hpm.size]; exact hj) := by simp [Array.getD, hpm.size, hj]
      unfold kk at h1
      rw [gi] at h1 li
      rw [gj] at h1 lj
      have hne : pm[i]'(by rw [hpm.size]; exact hi) ≠ pm[j]'(by rw [hpm.size]; exact hj) := fun z => by rw [z] at h1; omega
      have := zhm (memk _ li) (memk _ lj) (injk _ _ li lj hne)
      show LW.lexLt _ _ = true
      rw [← this, decide_eq_true_iff]
      exact h1
    exact ⟨zjG (hperm.trans (zci ks).symm) hupk (zeT hnd), hlt⟩
noncomputable def kvO (p d : Addr) : HO := .ext fun h => KdlKeysView h p d
section
variable {X : Cx}
theorem zqT : MtR X "dict.keys" (fun x xs H Q => ∃ a kvs, x = .ref a ∧ xs = [] ∧ H a = some (.dT kvs) ∧ ∀ p, H p = Option.none → Q (.ref p) (upd H p (kvO p a))) := by
  rintro pins s σ H x xs v us Q I rx rs ⟨a, kvs, rfl, rfl, e, q⟩
  cases rx
  cases rs
  obtain ⟨_, hd, zs, _, dd⟩ := zmc I.hok e
  refine wpAny_call_entry PySem.F.slot_dict_keys dd.typeIs PySem.F.entry_dict_keys ?_ (PySem.F.args_dict_keys_1 _)
  unfold Builtin.«dict.keys»
  refine wpAny_bind ?_
  unfold Builtin.Dict.noArgs
  refine wpAny_bind (wpAny_notOrdered_dict dd.typeIs ?_)
  show wpAny _ _ (pure a) _ _ s
  refine wpAny_pure ?_
  show wpAny _ _ (Builtin.Dict.showsAll a >>= _) _ _ s
  unfold Builtin.Dict.showsAll
  rw [if_neg (by rw [hd]; exact Bool.false_ne_true)]
  refine wpAny_bind (wpAny_pure (wpAny_bind (wpAny_newObj_type (wpAny_pure ⟨_, rfl, ?_⟩))))
  have hv : KdlKeysView (s.heap.push { cls := .type "dict_keys", data := .fields #[.ref a] }) s.heap.objs.size a := ⟨_, Heap.get?_push_size _ rfl, rfl, rfl⟩
  exact ⟨.ref s.heap.objs.size, _, I.laid (a := s.heap.objs.size) (o := kvO s.heap.objs.size a) (t' := s.toks) (fun _ _ q => Heap.get?_push_of_some _ q) (Nat.le_refl _)
    ⟨hv, ⟨_, Heap.get?_push_size _ rfl⟩, fun h1 h2 ⟨o, z1, z2⟩ k => ⟨o, k o z1, z2⟩⟩, rfl, q _ (I.hok.fresh (Nat.le_refl _))⟩
theorem ziq {K : PySem.W.Frag} {W : Addr → Prop} {H : Hp} : ∀ l : List Int, Reps K W H (l.map D.int) (l.map V.int)
  | [] => .nil
  | i :: r => .cons (.int i) (ziq r)
theorem zir {K : PySem.W.Frag} {W : Addr → Prop} {H : Hp} : ∀ {ns : List (List Int)} {ys : List V} {zs : List (List Key × Addr × Value)}, ns.length = ys.length →
    Paired (fun (p : List Key × V) (q : List Key × Addr × Value) => p.1 = q.1 ∧ H q.2.1 = some (.tup (p.1.map kV)) ∧ RelV p.2 q.2.2) (dTof ns ys) zs →
    Reps K W H (ns.map kT) (zs.map fun x => V.ref x.2.1) ∧ Vals (zs.map fun x => V.ref x.2.1) (zs.map fun x => Value.ref x.2.1) ∧ zs.length = ns.length
  | [], [], _, _, .nil => ⟨.nil, .nil, rfl⟩
  | n :: ns, y :: ys, _, hl, .cons h t => by
    obtain ⟨h1, h2, h3⟩ := zir (ns := ns) (ys := ys) (by simpa using hl) t
    refine ⟨.cons (.tup (xs := n.map V.int) ?_ (ziq n)) h1, .cons rfl h2, by simp [h3]⟩
    have := h.2.1
    rw [zee] at this
    exact this
theorem zoA (hc : X.calm = true) : CallR X (.builtin "sorted") (fun xs H Q => ∃ p a, xs = [.ref p] ∧ H p = some (kvO p a) ∧ VR X.K (zaj .skeys) [.ref a] H Q) := by
  rintro pins s σ H xs us Q I rv ⟨p, a, rfl, hp, W, ds, r, wf, hs, hf, q⟩
  obtain ⟨d, rfl, h1⟩ := pr1 hs
  replace hf : zh9 [d] = some r := hf
  unfold zh9 at hf
  split at hf
  case h_2 => cases hf
  rename_i ks vs z
  cases z
  obtain ⟨a', ns, ys, e, rfl, hH, hl, _⟩ := h1.dT
  cases e
  obtain ⟨u, rfl, ru⟩ := zf3 rv
  cases ru
  have hks : tups? (ns.map kT) = some ns := by
    clear hf hs h1 hl hH
    induction ns with
    | nil => rfl
    | cons n r ih =>
      have : ∀ l : List Int, ints? (l.map D.int) = some l := fun l => by induction l with
        | nil => rfl
        | cons x l ih => simp [ints?, ih]
      simp [tups?, kT, this, ih]
  unfold ze8 at hf
  rw [hks] at hf
  simp only [Option.bind_some] at hf
  split at hf
  case isFalse => cases hf
  rename_i hcond
  cases hf
  obtain ⟨h64, hnd, hne⟩ := hcond
  have hne' : ∀ k ∈ ns, k ≠ [] := fun k hk e => by
    have := List.all_eq_true.mp hne k hk
    rw [e] at this; cases this
  obtain ⟨_, hd, zs, rel, o, es, ep, g1, g2, g3, g4, g5⟩ := (show ObjOk X.prog X.w H s.heap a (.dT (dTof ns ys)) from I.hok a _ hH)
  have hview : KdlKeysView s.heap p a := (show ObjOk X.prog X.w H s.heap p (kvO p a) from I.hok p _ hp).1
  obtain ⟨rp, rv', zl⟩ := zir (K := X.K) (W := W) hl rel
  have hT := zjI I rp rv' hks
  obtain ⟨r, f1, f2, f3, f4⟩ := zlq (prog := X.prog) (w := X.w) (A := X.A.in1.in1) hT hnd hne'
  have il : (zs.map fun x => Value.ref x.2.1).length = ns.length := by rw [List.length_map, zl]
  have esz : es.size = ns.length := by rw [← Array.length_toList, g4, List.length_map, zl]
  refine Calls.call_function_entry kind_sorted plain_sorted entry_sorted (args_sorted1 _) ?_
  unfold Builtin.«sorted»
  refine wpAny_bind (m := checkCount "sorted" 1 1 _) (wpAny_pure ?_)
  refine wpAny_bind (kdu_collect (A := X.A.in1) zqS (I.ok.hd hc) ⟨hview, o, g1, g2, g3⟩ (by rw [sizeLine_eq]; omega) fun h2 tk acc hk hacc => ?_)
  have ea : acc.toList = zs.map fun x => Value.ref x.2.1 := by
    apply List.ext_getElem?
    intro j
    have sz : acc.size = es.size := hacc.1
    by_cases hj : j < acc.size
    · have h3 : acc.toList[j]? = some acc[j] := by simp [hj]
      obtain ⟨e, e1, e2⟩ := hacc.2 j acc[j] (by simp [hj])
      rw [h3, e2]
      rw [← Array.getElem?_toList, g4, List.getElem?_map, jo2] at e1
      obtain ⟨x, e3, e4⟩ := e1
      rw [List.getElem?_map, e3, ← e4]; rfl
    · rw [List.getElem?_eq_none (by simpa using hj), List.getElem?_eq_none (by rw [il]; omega)]
  rw [ea]
  refine wpAny_bind (wpAny_newList ?_ (by rw [il, sizeLine_eq]; omega))
  generalize hits : (zs.map fun x => Value.ref x.2.1) = its at *
  have hoL : (h2.push (seqObj "list" its.toArray 0)).get? h2.objs.size = some (seqObj "list" its.toArray 0) := Heap.get?_push_size _ rfl
  have keep : ∀ b q, s.heap.get? b = some q → (h2.push (seqObj "list" its.toArray 0)).get? b = some q := fun b q e => Heap.get?_push_of_some _ (hk b q e)
  have nea : ∀ b q, s.heap.get? b = some q → b ≠ h2.objs.size := fun b q e => Nat.ne_of_lt (Heap.lt_size (hk b q e))
  have I2 := I.kept (t' := tk) hk
  show wpAny _ _ _ _ _ { s with heap := h2.push (seqObj "list" its.toArray 0), toks := tk }
  refine wpAny_bind (wpAny_holding (wpAny_call_entry slot_list_sort ⟨_, hoL, rfl⟩ entry_list_sort (zim (s := { s with heap := h2.push (seqObj "list" its.toArray 0), toks := tk }) (κ := tuples' (Value.type "int" != Value.type "tuple")) (r := r) hoL (by omega) f1 (fun z2 h' tk hk' => ?_) (fun i j h' tk C hi hj hk' q => ?_) fun pm tk hp hu => ⟨_, rfl, ?_⟩) (args_list_sort _)))
  · exact f2 z2 h' tk fun b o e => hk' b o (nea b o e) (keep b o e)
  · exact f3 i j h' tk C hi hj (fun b o e => hk' b o (nea b o e) (keep b o e)) q
  · obtain ⟨heq, hlt⟩ := f4 pm hp hu
    refine wpAny_pure ⟨_, rfl, ?_⟩
    obtain ⟨e, he⟩ := sortedHeap_at (out := (pm.toList.map fun i => its.getD i Value.none).toArray) hoL
    have fr : H h2.objs.size = Option.none := I2.hok.fresh (Nat.le_refl _)
    have hds : (pm.toList.map fun i => (ns.map kT).getD i .non) = (zf6 ns).map kT := by
      rw [← heq, List.map_map]
      apply List.map_congr_left
      intro i hi
      have hi' := hlt i hi
      show (ns.map kT).getD i .non = kT (ns.getD i [])
      rw [zaP (x := kT (ns[i]'(by omega))) (by simp [show i < ns.length by omega]), zaP (x := ns[i]'(by omega)) (by simp)]
    have hrep := zio rp pm.toList fun i hi => by have := hlt i hi; simp; omega
    rw [hds] at hrep
    have hvals := zin rv' pm.toList fun i hi => hlt i hi
    have rn := zed fr hrep
    refine ⟨.ref h2.objs.size, _, I2.laid (a := h2.objs.size) (h' := sortedHeap (h2.push (seqObj "list" its.toArray 0)) h2.objs.size its (pm.toList.map fun i => its.getD i Value.none).toArray) (o := .lst (pm.toList.map fun i => (zs.map fun x => V.ref x.2.1).getD i .non)) (t' := tk) (fun b o q => ?_) (Nat.le_refl _) ⟨?_, _, e, hvals, ?_⟩, rfl, q _ _ (za1 fr _) rn⟩
    · have lt : b < h2.objs.size := Heap.lt_size q
      have q' := Heap.get?_push_of_some (seqObj "list" its.toArray 0) q
      rw [sortedHeap_old (Nat.ne_of_lt lt) (Heap.lt_size q')]; exact q'
    · rw [List.length_map, Array.length_toList, hp.size]; exact Nat.le_of_lt (zcC (by omega))
    · simpa [seqObj] using he
end
end L2.LW
set_option linter.all false
set_option maxHeartbeats 4000000
namespace L2.LW
open PySem PySem.Spec PySem.W PySem.Calls PyProof.Rows
section
variable {X : Cx} {fn : Nat → List D → Option SV} {fa : Nat → List D → Option Ans} {fuel : Nat} {a b c e : Expr} {ca cb cc ce : E} {pos p : Pos} {x : Str}
theorem zqU {apos cpos : Pos} (hc : X.calm = true) (hg : Gl X "sorted") (hm : X.mg "sorted" = Option.none) (ha : IE X fn a ca)
    (hst : starEach [Expr.Call (.Attribute a "keys" apos) [] [] cpos] X.env = (false, eval (Expr.Call (.Attribute a "keys" apos) [] [] cpos) X.env) :: starEach [] X.env := by rfl)
    (hbase : attributeBase a "keys" X.env (eval a X.env) = eval a X.env := by rfl) (hline : (apos.endLine == cpos.line) = true := by rfl) :
    IE X fn (.Call (.Name "sorted" p) [.Call (.Attribute a "keys" apos) [] [] cpos] [] pos) (.prim .skeys (.cons ca .nil)) :=
  .mk <| (zgZ (zoA hc) hg hm PyProof.Rows.boot_sorted (zcB (zsc PySem.F.plainAttrs_dict PySem.F.slot_dict_keys PySem.F.type_dict_keys zqT ha.v hbase hline) zgt hst) (by decide) (by decide) hst zam).imp fun σ H Q zz3 => by
    obtain ⟨W, ρ, r, hR, he, q⟩ := zz3
    simp only [zbW, zbA, zbh, jo1, jo2] at he
    obtain ⟨rs, ⟨r1, e1, rs', e3, rfl⟩, e4⟩ := he
    cases e3
    refine ⟨W, ρ, r1, hR, e1, fun v1 H1 s1 f1 => ?_⟩
    have hsee := zg7 (.cons f1 .nil)
    have e5 : zh9 [seeD r1] = some r := e4
    unfold zh9 at e5
    split at e5
    case h_2 => cases e5
    rename_i ks vs z
    have z1 : seeD r1 = .dct true ks vs := by simpa using z
    obtain ⟨d0, ed, hs⟩ := pr1 hsee
    simp at ed
    subst ed
    rw [z1] at hs
    obtain ⟨a0, ns, ys, rfl, rfl, hH, hl, _⟩ := hs.dT
    refine ⟨.inr (.inr (.inl ⟨rfl, .inr ⟨_, hH⟩⟩)), a0, _, rfl, rfl, hH, fun p0 hp0 => ?_⟩
    exact ⟨p0, a0, rfl, zbb, zfb hR (s1.trans (za1 hp0 _)) (.cons (f1.same (za1 hp0 _)) .nil) e4 q⟩
end
end L2.LW
set_option linter.all false
set_option maxHeartbeats 4000000
namespace L2.LW
open PySem PySem.Spec PySem.W PySem.Calls PyProof.Rows
noncomputable def zf2 (i : Nat) : Int := reduceHash (Builtin.Tuple.tupleHashOf [hashInt ((i / 8 : Nat) : Int), hashInt ((i % 8 : Nat) : Int)])
theorem zlr : ((List.range 64).map zf2).Nodup := by decide +kernel
theorem zmZ {P : Program} {w : World} {a b : Int} (h : 0 ≤ a ∧ a ≤ 7 ∧ 0 ≤ b ∧ b ≤ 7) : (a * 8 + b).toNat < 64 ∧ tupleKeyHash (zav P w) [Sum.inl a, Sum.inl b] = zf2 (a * 8 + b).toNat := by
  refine ⟨by omega, ?_⟩
  unfold zf2
  rw [show (((a * 8 + b).toNat / 8 : Nat) : Int) = a by omega, show (((a * 8 + b).toNat % 8 : Nat) : Int) = b by omega]
  rfl
noncomputable def zdr (k : List Key) : Prop := ∃ a b : Int, k = [Sum.inl a, Sum.inl b] ∧ 0 ≤ a ∧ a ≤ 7 ∧ 0 ≤ b ∧ b ≤ 7
theorem zoB {P : Program} {w : World} {k k' : List Key} (h : zdr k) (h' : zdr k') (e : tupleKeyHash (zav P w) k = tupleKeyHash (zav P w) k') : k = k' := by
  obtain ⟨a, b, rfl, r⟩ := h
  obtain ⟨c, d, rfl, r'⟩ := h'
  obtain ⟨l1, e1⟩ := zmZ (P := P) (w := w) r
  obtain ⟨l2, e2⟩ := zmZ (P := P) (w := w) r'
  rw [e1, e2] at e
  have e3 : ((List.range 64).map zf2)[(a * 8 + b).toNat]'(by rw [List.length_map, List.length_range]; exact l1) = ((List.range 64).map zf2)[(c * 8 + d).toNat]'(by rw [List.length_map, List.length_range]; exact l2) := by simpa using e
  have := (List.getElem_inj zlr).mp e3
  have ea : a = c := by omega
  have eb : b = d := by omega
  rw [ea, eb]
section
variable {prog : Program} {w : World} {K : Type} [DecidableEq K] {knd : HeapKind prog w K} {A : Around} {E : Value → Shared → Prop} {s : Shared}
theorem zsT {d a : Addr} {xs : List (K × Addr × Value)} {k : K} {v : Value} {Q : Unit → Shared → Prop} (hu : knd.room A) (hkey : knd.is s.heap k a) (hm : s.heap.DictOfH knd d xs) (hsz : xs.length ≤ sizeLine)
    (q : ∀ h2, h2.DictOfH knd d (storedH xs k a v) → Heap.SameBut d s.heap h2 → Q () { s with heap := h2 }) : wpAny (model prog w) A (dictSetHashed d (.ref a) (knd.hash k) v) Q E s := by
  obtain ⟨ob, tb, ep, e1, ex, e2, e3, al, nd⟩ := hm
  have lz := size_of_entries e3
  unfold dictSetHashed
  try with_reducible refine wpAny_holding ?_
  refine wpAny_bind (wpAny_dictFind_heap hu hkey e1 e2 e3 al nd (fun no => ?_) fun j p hj => ?_)
  · have ak := atKey_none_of_get no
    have nm := not_mem_keys_of_get no
    refine wpAny_bind (wpAny_rule (wpAny_updateDictKeys (hz := by omega) e1 e2 (q _ ?_ (Heap.SameBut.update ..))))
    rw [storedH_new ak]
    refine ⟨_, _, ep + 1, Heap.get?_update_self _ e1 (Obj.isFreed_of_dict (Obj.data_mapDictKeys e2 _)), ex.mapDictKeys _, Obj.data_mapDictKeys e2 _, by simp [e3, entryOfKey], fun z hz => ?_, ?_⟩
    · rcases List.mem_append.mp hz with hz | hz
      · exact knd.keeps (al z hz) e1 e2 (Heap.SameBut.update ..)
      · rw [List.mem_singleton] at hz
        rw [hz]
        exact knd.keeps hkey e1 e2 (Heap.SameBut.update ..)
    · rw [List.map_append, List.nodup_append]
      exact ⟨nd, by simp, fun y hy z hz e => nm (by simp at hz; rw [← hz, ← e]; exact hy)⟩
  · have ak := atKey_of_get nd hj
    refine wpAny_bind (wpAny_rule (wpAny_bind (wpAny_updateDict e1 e2 (wpAny_point (q _ ?_ (Heap.SameBut.update ..))))))
    rw [storedH_old ak]
    refine ⟨_, _, ep, Heap.get?_update_self _ e1 (Obj.isFreed_of_dict (Obj.data_mapDict e2 _)), ex.mapDict _, Obj.data_mapDict e2 _, ?_, fun z hz => ?_, ?_⟩
    · have mm := modify_map_putAt (entryOfKey knd) (fun t : DictEntry => { t with val := v }) k v (fun _ _ => rfl) nd hj
      rw [← e3] at mm
      obtain ⟨l⟩ := tb
      simpa using mm
    · obtain ⟨y, hy, rfl⟩ := List.mem_map.mp hz
      unfold putAt
      split <;> exact knd.keeps (al y hy) e1 e2 (Heap.SameBut.update ..)
    · rw [keys_map_putAt]; exact nd
noncomputable def zbp (xs zs : List (K × Addr × Value)) : List (K × Addr × Value) := zs.foldl (fun acc z => storedH acc z.1 z.2.1 z.2.2) xs
theorem zjJ (xs : List (K × Addr × Value)) (k : K) (a : Addr) (v : Value) : (storedH xs k a v).length ≤ xs.length + 1 := by
  unfold storedH; split <;> simp
theorem zds (xs : List (K × Addr × Value)) : ∀ zs : List (K × Addr × Value), (zbp xs zs).length ≤ xs.length + zs.length := fun zs => by
  induction zs generalizing xs with
  | nil => simp [zbp]
  | cons z r ih =>
    have h1 := ih (storedH xs z.1 z.2.1 z.2.2)
    have h2 := zjJ xs z.1 z.2.1 z.2.2
    show (zbp (storedH xs z.1 z.2.1 z.2.2) r).length ≤ _
    simp; omega
theorem zfi : ∀ (zs xs : List (K × Addr × Value)), ((xs ++ zs).map (·.1)).Nodup → zbp xs zs = xs ++ zs
  | [], xs, _ => by simp [zbp]
  | z :: r, xs, h => by
    have ak : atKey xs z.1 = none := atKey_none_of_get fun j p hj => by
      rw [List.map_append, List.map_cons, List.nodup_append] at h
      exact h.2.2 z.1 (List.mem_map.mpr ⟨(z.1, p), List.mem_of_getElem? hj, rfl⟩) z.1 List.mem_cons_self rfl
    show zbp (storedH xs z.1 z.2.1 z.2.2) r = _
    rw [storedH_new ak, zfi r _ (by simpa using h)]
    simp
theorem zer (xs zs : List (K × Addr × Value)) (i : Nat) (z : K × Addr × Value) (h : zs[i]? = some z) : zbp xs (zs.take (i + 1)) = storedH (zbp xs (zs.take i)) z.1 z.2.1 z.2.2 := by
  simp [zbp, List.take_add_one, h, List.foldl_append]
end
section
variable {P : Program} {w : World} {A : Around} {E : Value → Shared → Prop} {s : Shared}
theorem zqV {id : String} {d : Addr} {ob : Obj} {tb : Array DictEntry} {ep : Nat} {zs : List (List Key × Addr × Value)} {Q : Array DictEntry → Shared → Prop} (e1 : s.heap.get? d = some ob) (e2 : ob.data = .dict tb ep) (e3 : tb.toList = zs.map (entryOfKey (tupleKind (zav P w))))
    (al : ∀ z ∈ zs, (tupleKind (zav P w)).is s.heap z.1 z.2.1) (nd : (zs.map (·.1)).Nodup) (sm : ∀ z ∈ zs, zdr z.1) (q : Q tb s) : wpAny (model P w) A (Builtin.Dict.entriesForEmpty id d) Q E s := by
  unfold Builtin.Dict.entriesForEmpty
  refine wpAny_bind (wpAny_dictEntries e1 e2 (wpAny_bind ?_))
  rw [← Array.forIn_toList]
  refine wpAny_forIn_list _ (fun rest _ s' => s' = s ∧ ∀ t ∈ rest, t ∈ tb.toList) _ (fun t rest b s' ⟨hs, hall⟩ => ?_) (fun b s' ⟨hs, _⟩ => ?_) _ _ ⟨rfl, fun t ht => ht⟩
  · subst hs
    have ht := hall t List.mem_cons_self
    have ht2 := ht
    rw [e3] at ht2
    obtain ⟨z, hz, rfl⟩ := List.mem_map.mp ht2
    have tq := al z hz
    have nxt : (s' = s' ∧ ∀ t ∈ rest, t ∈ tb.toList) := ⟨rfl, fun y hy => hall y (List.mem_cons_of_mem _ hy)⟩
    refine wpAny_bind ?_
    show wpAny _ _ (Builtin.Dict.quietEq (.ref z.2.1)) _ _ _
    unfold Builtin.Dict.quietEq
    refine wpAny_bind (wpAny_specialOf (IsTupleKey.typeIs tq) PySem.F.slot_tuple_eq.lookup (wpAny_pure ?_))
    have one : ¬ (tb.filter fun y => y.hash == (entryOfKey (tupleKind (zav P w)) z).hash).size > 1 := by
      intro big
      have : (tb.toList.filter fun y => y.hash == (entryOfKey (tupleKind (zav P w)) z).hash).length > 1 := by
        have := big
        rw [← Array.length_toList, Array.toList_filter] at this
        exact this
      rw [e3, List.filter_map, List.length_map] at this
      have nd2 : zs.Nodup := (List.pairwise_map.mp nd).imp fun h e => h (by rw [e])
      have le : (zs.filter ((fun y => y.hash == (entryOfKey (tupleKind (zav P w)) z).hash) ∘ entryOfKey (tupleKind (zav P w)))).length ≤ [z].length := by
        have key : ∀ y ∈ zs.filter ((fun y => y.hash == (entryOfKey (tupleKind (zav P w)) z).hash) ∘ entryOfKey (tupleKind (zav P w))), y = z := fun y hy => by
          rw [List.mem_filter] at hy
          obtain ⟨hy1, hy2⟩ := hy
          have eh : tupleKeyHash (zav P w) y.1 = tupleKeyHash (zav P w) z.1 := by simpa [entryOfKey, tupleKind] using hy2
          have ek := zoB (sm y hy1) (sm z hz) eh
          obtain ⟨i, hi, rfl⟩ := List.getElem_of_mem hy1
          obtain ⟨j, hj, rfl⟩ := List.getElem_of_mem hz
          have : i = j := (List.getElem_inj nd (h₀ := by simpa using hi) (h₁ := by simpa using hj)).mp (by simpa using ek)
          subst this; rfl
        have nf := nd2.filter ((fun y => y.hash == (entryOfKey (tupleKind (zav P w)) z).hash) ∘ entryOfKey (tupleKind (zav P w)))
        generalize zs.filter ((fun y => y.hash == (entryOfKey (tupleKind (zav P w)) z).hash) ∘ entryOfKey (tupleKind (zav P w))) = L at key nf
        match L, nf, key with
        | [], _, _ => simp
        | [_], _, _ => simp
        | x :: y :: r, nf, key =>
          have h1 := key x (by simp)
          have h2 := key y (by simp)
          rw [h1, h2] at nf
          simp at nf
      simp at le
      omega
    have ne : ((some (Value.builtin "tuple.__eq__") == some (Value.builtin "object.__eq__")) = false) := by decide
    rw [ne]
    simp only [Bool.not_false, if_true]
    rw [if_neg one]
    exact wpAny_pure nxt
  · subst hs
    exact wpAny_pure q
theorem zsU {nm : String} {d o : Addr} {xs zs : List (List Key × Addr × Value)} {Q : Unit → Shared → Prop} (hu : A.units < cLine) (ne : d ≠ o) (hoS : (o == sysModules) = false)
    (hd : s.heap.DictOfH (tupleKind (zav P w)) d xs) (ho : s.heap.DictOfH (tupleKind (zav P w)) o zs) (sm : ∀ z ∈ zs, zdr z.1) (hsz : xs.length + zs.length < sizeLine)
    (q : ∀ h2, h2.DictOfH (tupleKind (zav P w)) d (zbp xs zs) → Heap.SameBut d s.heap h2 → Q () { s with heap := h2 }) : wpAny (model P w) A (Builtin.Dict.mergeDict nm d o) Q E s := by
  obtain ⟨od, td, pd, d1, d2, d3, d4, d5, d6⟩ := id hd
  obtain ⟨oo, to, po, o1, o2, o3, o4, o5, o6⟩ := id ho
  have lz := size_of_entries o4
  have lx := size_of_entries d4
  unfold Builtin.Dict.mergeDict
  rw [if_neg (by simpa using ne)]
  unfold Builtin.Dict.showsAll
  rw [if_neg (by rw [hoS]; exact Bool.false_ne_true)]
  refine wpAny_bind (wpAny_pure (wpAny_bind (wpAny_dictEntries o1 o3 ?_)))
  dsimp only
  split
  · refine wpAny_bind (wpAny_dictEntries d1 d3 ?_)
    split
    · rename_i em
      have x0 : xs = [] := List.length_eq_zero_iff.mp (by rw [← lx, Array.isEmpty_iff.mp em]; rfl)
      subst x0
      refine wpAny_bind (zqV o1 o3 o4 o5 o6 sm ?_)
      split
      · refine wpAny_bind (wpAny_updateDictKeysTo d1 d3 (wpAny_pure (q _ ?_ (Heap.SameBut.update ..))) (by omega))
        rw [zfi zs [] (by simpa using o6)]
        exact ⟨_, _, pd + 1, Heap.get?_update_self _ d1 (Obj.isFreed_of_dict (Obj.data_mapDictKeys d3 _)), d2.mapDictKeys _, Obj.data_mapDictKeys d3 _, o4, fun z hz' => (tupleKind (zav P w)).keeps (o5 z hz') d1 d3 (Heap.SameBut.update ..), o6⟩
      · rename_i h0
        have e0 : to.size = 0 := by
          have : to.isEmpty = true := by simpa using h0
          rw [Array.isEmpty_iff.mp this]; rfl
        have z0 : zs = [] := List.length_eq_zero_iff.mp (by omega)
        subst z0
        exact wpAny_pure (q _ (by simpa [zbp] using hd) (Heap.SameBut.refl _ _))
    · refine wpAny_bind (wpAny_dictEpoch o1 o3 (wpAny_bind (wpAny_dictEntries o1 o3 (wpAny_bind ?_))))
      rw [Std.Legacy.Range.forIn_eq_forIn_range']
      simp only [Nat.div_one, Nat.add_sub_cancel, Nat.sub_zero, Std.Legacy.Range.size]
      refine wpAny_forIn_list _ (fun rest _ s' => ∃ h2 i, s' = { s with heap := h2 } ∧ rest = List.range' i (to.size - i) ∧ i ≤ to.size ∧ h2.DictOfH (tupleKind (zav P w)) d (zbp xs (zs.take i)) ∧ h2.get? o = some oo ∧ Heap.SameBut d s.heap h2)
        _ (fun x rest b s' => ?_) (fun b s' => ?_) _ _ ⟨s.heap, 0, rfl, by simp, Nat.zero_le _, by simpa [zbp] using hd, o1, Heap.SameBut.refl _ _⟩
      · rintro ⟨h2, i, rfl, er, hi, hd2, oh, sb⟩
        have lt : i < to.size := by
          by_cases z : i < to.size
          · exact z
          · rw [show to.size - i = 0 by omega] at er; simp at er
        rw [show to.size - i = (to.size - (i + 1)) + 1 by omega, List.range'_succ] at er
        injection er with ex erest
        subst ex
        refine wpAny_bind (wpAny_dictEntries oh o3 ?_)
        obtain ⟨z, ez⟩ : ∃ z, zs[x]? = some z := ⟨zs[x]'(by omega), List.getElem?_eq_getElem _⟩
        have et : to[x]? = some (entryOfKey (tupleKind (zav P w)) z) := by rw [entry_at o4 x, ez]; rfl
        rw [et]
        show wpAny _ _ (holding [Value.ref z.2.1, z.2.2] (dictSetHashed d (.ref z.2.1) ((tupleKind (zav P w)).hash z.1) z.2.2) >>= _) _ _ _
        have hz := List.mem_of_getElem? ez
        have ml := zds xs (zs.take x)
        have tl : (zs.take x).length ≤ zs.length := by rw [List.length_take]; omega
        refine wpAny_bind (wpAny_holding (zsT (s := { s with heap := h2 }) hu ((tupleKind (zav P w)).keeps (o5 z hz) d1 d3 sb) hd2 (by omega) fun h3 hd3 sb3 => ?_))
        have oh3 : h3.get? o = some oo := (sb3.2 o (Ne.symm ne)).trans oh
        refine wpAny_bind (wpAny_dictEpoch (s := { s with heap := h3 }) oh3 o3 ?_)
        rw [if_neg (by simp)]
        exact wpAny_pure ⟨h3, x + 1, rfl, erest, lt, by rw [zer xs zs x z ez]; exact hd3, oh3, sb.trans sb3⟩
      · rintro ⟨h2, i, rfl, er, hi, hd2, oh, sb⟩
        have : i = to.size := by
          by_cases z : i < to.size
          · rw [show to.size - i = (to.size - (i + 1)) + 1 by omega, List.range'_succ] at er; cases er
          · omega
        rw [this, lz, List.take_length] at hd2
        exact wpAny_pure (q h2 hd2 sb)
  · refine wpAny_bind (wpAny_dictEpoch o1 o3 (wpAny_bind (wpAny_dictEntries o1 o3 (wpAny_bind ?_))))
    rw [Std.Legacy.Range.forIn_eq_forIn_range']
    simp only [Nat.div_one, Nat.add_sub_cancel, Nat.sub_zero, Std.Legacy.Range.size]
    refine wpAny_forIn_list _ (fun rest _ s' => ∃ h2 i, s' = { s with heap := h2 } ∧ rest = List.range' i (to.size - i) ∧ i ≤ to.size ∧ h2.DictOfH (tupleKind (zav P w)) d (zbp xs (zs.take i)) ∧ h2.get? o = some oo ∧ Heap.SameBut d s.heap h2)
      _ (fun x rest b s' => ?_) (fun b s' => ?_) _ _ ⟨s.heap, 0, rfl, by simp, Nat.zero_le _, by simpa [zbp] using hd, o1, Heap.SameBut.refl _ _⟩
    · rintro ⟨h2, i, rfl, er, hi, hd2, oh, sb⟩
      have lt : i < to.size := by
        by_cases z : i < to.size
        · exact z
        · rw [show to.size - i = 0 by omega] at er; simp at er
      rw [show to.size - i = (to.size - (i + 1)) + 1 by omega, List.range'_succ] at er
      injection er with ex erest
      subst ex
      refine wpAny_bind (wpAny_dictEntries oh o3 ?_)
      obtain ⟨z, ez⟩ : ∃ z, zs[x]? = some z := ⟨zs[x]'(by omega), List.getElem?_eq_getElem _⟩
      have et : to[x]? = some (entryOfKey (tupleKind (zav P w)) z) := by rw [entry_at o4 x, ez]; rfl
      rw [et]
      show wpAny _ _ (holding [Value.ref z.2.1, z.2.2] (dictSetHashed d (.ref z.2.1) ((tupleKind (zav P w)).hash z.1) z.2.2) >>= _) _ _ _
      have hz := List.mem_of_getElem? ez
      have ml := zds xs (zs.take x)
      have tl : (zs.take x).length ≤ zs.length := by rw [List.length_take]; omega
      refine wpAny_bind (wpAny_holding (zsT (s := { s with heap := h2 }) hu ((tupleKind (zav P w)).keeps (o5 z hz) d1 d3 sb) hd2 (by omega) fun h3 hd3 sb3 => ?_))
      have oh3 : h3.get? o = some oo := (sb3.2 o (Ne.symm ne)).trans oh
      refine wpAny_bind (wpAny_dictEpoch (s := { s with heap := h3 }) oh3 o3 ?_)
      rw [if_neg (by simp)]
      exact wpAny_pure ⟨h3, x + 1, rfl, erest, lt, by rw [zer xs zs x z ez]; exact hd3, oh3, sb.trans sb3⟩
    · rintro ⟨h2, i, rfl, er, hi, hd2, oh, sb⟩
      have : i = to.size := by
        by_cases z : i < to.size
        · rw [show to.size - i = (to.size - (i + 1)) + 1 by omega, List.range'_succ] at er; cases er
        · omega
      rw [this, lz, List.take_length] at hd2
      exact wpAny_pure (q h2 hd2 sb)
end
end L2.LW
set_option linter.all false
set_option maxHeartbeats 4000000
namespace L2.LW
open PySem PySem.Spec PySem.W PySem.Calls PyProof.Rows
noncomputable def zgF (kvs kvs2 : List (List Key × V)) : List (List Key × V) := kvs2.foldl (fun acc p => putK acc p.1 p.2) kvs
theorem KT.merge {H : Hp} : ∀ {kvs2 : List (List Key × V)} {zs : List (List Key × Addr × Value)}, KT H kvs2 zs → ∀ {kvs : List (List Key × V)} {xs : List (List Key × Addr × Value)}, KT H kvs xs → KT H (zgF kvs kvs2) (zbp xs zs)
  | _, _, .nil, _, _, r => r
  | _, _, .cons (a := p) (b := z) h t, kvs, xs, r => by
    have r1 : KT H (putK kvs p.1 p.2) (storedH xs z.1 z.2.1 z.2.2) := by
      have e : p.1 = z.1 := h.1
      rw [e]
      exact KT.put r z.1 (by rw [← e]; exact h.2.1) h.2.2
    exact KT.merge t r1
section
variable {X : Cx}
theorem zm0 (hu : X.A.units + 64 < cLine) : MtR X "dict.update" (fun x xs H Q => ∃ a b kvs kvs2, x = .ref a ∧ xs = [.ref b] ∧ a ≠ b ∧ H a = some (.dT kvs) ∧ H b = some (.dT kvs2) ∧ (∀ p ∈ kvs2, zdr p.1) ∧ kvs.length + kvs2.length < sizeLine ∧ Q .non (upd H a (.dT (zgF kvs kvs2)))) := by
  rintro pins s σ H x xs v us Q I rx rs ⟨a, b, kvs, kvs2, rfl, rfl, ne, ea, eb, sm, hsz, q⟩
  cases rx
  obtain ⟨u, rfl, ru⟩ := zf3 rs
  cases ru
  obtain ⟨_, hd, zs, rel, dd⟩ := zmc I.hok ea
  obtain ⟨-, hd2, zs2, rel2, dd2⟩ := zmc I.hok eb
  have l1 : zs.length = kvs.length := (Paired.length rel).symm
  have l2 : zs2.length = kvs2.length := (Paired.length rel2).symm
  have sm2 : ∀ z ∈ zs2, zdr z.1 := by
    clear q hsz l2 dd2 eb
    induction rel2 with
    | nil => intro z hz; cases hz
    | cons h t ih =>
      intro z hz
      rcases List.mem_cons.mp hz with rfl | hz
      · rw [← h.1]; exact sm _ List.mem_cons_self
      · exact ih (fun p hp => sm p (List.mem_cons_of_mem _ hp)) z hz
  refine wpAny_call_entry PySem.F.slot_dict_update dd.typeIs PySem.F.entry_dict_update ?_ (PySem.F.args_dict_update_2 _ _)
  unfold Builtin.«dict.update»
  refine wpAny_bind ?_
  unfold Builtin.Dict.selfAndRest
  refine wpAny_bind (wpAny_notOrdered_dict dd.typeIs ?_)
  show wpAny _ _ (pure (a, [Value.ref b])) _ _ s
  refine wpAny_pure ?_
  show wpAny _ _ (Builtin.Dict.updateFrom "dict.update" a (.ref b) [] .none) _ _ s
  unfold Builtin.Dict.updateFrom
  refine wpAny_bind (wpAny_typeOf dd2.typeIs ?_)
  rw [if_neg (by decide)]
  refine wpAny_bind ?_
  unfold Builtin.Dict.merge
  refine wpAny_bind ?_
  unfold Builtin.Dict.readDirectly
  refine wpAny_bind (wpAny_isInstance dd2.typeIs isSubtype_dict_dict ?_)
  simp only [Bool.not_true, Bool.false_eq_true, if_false]
  refine wpAny_bind (wpAny_specialOf dd2.typeIs PySem.F.slot_dict_iter.lookup (wpAny_pure ?_))
  simp only [if_true, beq_self_eq_true]
  refine wpAny_bind (wpAny_pure (zsU (show X.A.in1.units < cLine from Nat.lt_of_le_of_lt (Nat.le_refl _) (by show X.A.units + 1 < cLine; omega)) ne hd2 dd dd2 sm2 (by omega) fun h2 dd3 sb => ?_))
  show wpAny _ _ (Builtin.Dict.addKeywords a [] >>= _) _ _ _
  refine wpAny_bind (wpAny_pure (wpAny_pure ⟨.none, rfl, .non, _, ?_, rfl, q⟩))
  obtain ⟨ob, es, ep, q1, q2, q3, q4, _, q5⟩ := dd3
  have ml := zds zs zs2
  refine zg3 (t' := s.toks) I (by rw [ea]; exact True.intro) sb ⟨ob, q1⟩ ⟨?_, hd, _, (KT.merge rel2 rel).keeps fun c ys ec => ?_, ob, es, ep, q1, q2, q3, q4, q5⟩
  · have := Paired.length (KT.merge rel2 rel)
    omega
  · rw [zaS (zpZ ec ea (fun z => nomatch z))]
    exact ec
end
theorem zm1 {K : PySem.W.Frag} {W : Addr → Prop} {H : Hp} : ∀ {ns2 : List (List Int)} {ys2 : List V} {vs2 : List D}, ns2.length = ys2.length → Reps K W H vs2 ys2 → ∀ {ns : List (List Int)} {ys : List V} {vs : List D}, ns.length = ys.length → Reps K W H vs ys →
    ORep K W H (.dct true (zcE (ns.map kT) vs (ns2.map kT) vs2).1 (zcE (ns.map kT) vs (ns2.map kT) vs2).2) (.dT (zgF (dTof ns ys) (dTof ns2 ys2)))
  | [], [], _, _, .nil, ns, ys, vs, l, r => .dT l r
  | n :: ns2, y :: ys2, _, l2, .cons (d := d) (ds := dt) h t, ns, ys, vs, l, r => by
    have o1 := zpD l r n h
    have st : ∀ {D0 : D} {P0 : List (List Key × V)}, ORep K W H D0 (.dT P0) → ∃ ns' ys' vs', D0 = .dct true (ns'.map kT) vs' ∧ P0 = dTof ns' ys' ∧ ns'.length = ys'.length ∧ Reps K W H vs' ys' := by
      intro D0 P0 o
      cases o with
      | dT l r => exact ⟨_, _, _, rfl, rfl, l, r⟩
    obtain ⟨ns', ys', vs', e1, e2, l', r'⟩ := st o1
    have ih := zm1 (ns2 := ns2) (ys2 := ys2) (by simpa using l2) t l' r'
    have e3 : zcE (ns.map kT) vs ((n :: ns2).map kT) (d :: dt) = zcE (ns'.map kT) vs' (ns2.map kT) dt := by
      rw [List.map_cons, zcE, e1]
    have e4 : zgF (dTof ns ys) (dTof (n :: ns2) (y :: ys2)) = zgF (dTof ns' ys') (dTof ns2 ys2) := by
      show zgF (putK (dTof ns ys) (n.map Sum.inl) y) (dTof ns2 ys2) = _
      rw [e2]
    rw [e3, e4]
    exact ih
theorem zqW {ns : List (List Int)} {ys : List V} (h : (ns.map kT).all zia = true) : ∀ p ∈ dTof ns ys, zdr p.1 := by
  intro p hp
  have h1 := (List.of_mem_zip (show (p.1, p.2) ∈ _ from hp)).1
  rw [List.mem_map] at h1
  obtain ⟨n, hn, e⟩ := h1
  have h2 := List.all_eq_true.mp h (kT n) (List.mem_map.mpr ⟨n, hn, rfl⟩)
  rw [← e]
  unfold kT zia at h2
  match n, h2 with
  | [], h2 => simp at h2
  | [_], h2 => simp at h2
  | [a, b], h2 => exact ⟨a, b, rfl, by simpa using h2⟩
  | _ :: _ :: _ :: _, h2 => simp at h2
section
variable {X : Cx} {fn : Nat → List D → Option SV} {fa : Nat → List D → Option Ans} {fuel : Nat} {pos p p2 : Pos} {x y : Str}
theorem zsV (i j : Nat) {apos cpos : Pos} (hu : X.A.units + 64 < cLine) (hN : X.N[i]? = some x) (hv : Vis X.env.scope x) (hN2 : X.N[j]? = some y) (hv2 : Vis X.env.scope y) (hst : starEach [Expr.Name y p2] X.env = (false, eval (.Name y p2) X.env) :: starEach [] X.env)
    (hd : (x == ("__debug__" : Str)) = false) (hcd : (x == ("__classdict__" : Str)) = false) (hd2 : (y == ("__debug__" : Str)) = false) (hcd2 : (y == ("__classdict__" : Str)) = false)
    (hs : swapsWith (.Call (.Attribute (.Name x p) "update" apos) [.Name y p2] [] cpos) Option.none pos.line X.env = pure false := by rfl)
    (hbase : attributeBase (.Name x p) "update" X.env (eval (.Name x p) X.env) = eval (.Name x p) X.env := by rfl)
    (hline : (apos.endLine == cpos.line) = true := by rfl) :
    IS X (exS fa fuel (.dupd i j)) (.Expr (.Call (.Attribute (.Name x p) "update" apos) [.Name y p2] [] cpos) pos) :=
  .mk <| (zjn (zsd PySem.F.plainAttrs_dict PySem.F.slot_dict_update PySem.F.type_dict_update (zm0 hu) (zdv hN hv hd hcd) (zcB (zdv hN2 hv2 hd2 hcd2) zgt hst) hbase (by rw [hst]; rfl) hline hst zam) hs).imp fun D σ H zz3 => by
    obtain ⟨W, ρ, y, hR, hy, q⟩ := zz3
    simp only [zqv] at hy
    unfold zmj at hy
    split at hy
    · cases hy
    rename_i nij
    split at hy
    case h_2 => cases hy
    rename_i x0 h
    unfold zof at hy
    split at hy
    case h_2 => cases hy
    rename_i ks vs ks2 vs2 hc hc2
    split at hy
    case isFalse => cases hy
    rename_i hcond
    cases hy
    rw [Bool.and_eq_true, decide_eq_true_iff] at hcond
    unfold zcD at hc2
    split at hc2
    case h_2 => cases hc2
    rename_i y0 h0
    obtain ⟨a, o, h1, h2, h3, h4⟩ := hR.own i _ _ h hc
    obtain ⟨b, o2, g1, g2, g3, g4⟩ := hR.own j _ _ h0 hc2
    have ne : a ≠ b := fun z => nij (hR.inj i j _ _ _ _ a h h0 hc hc2 h1 (by rw [z]; exact g1))
    cases h4 with
    | dT l rp =>
    cases g4 with
    | dT l2 rp2 =>
    have le := ze9
    refine ⟨_, h1, .inr (.inr (.inl ⟨rfl, .inr ⟨_, h3⟩⟩)), _, g1, a, b, _, _, rfl, rfl, ne, h3, g3, zqW hcond.1, ?_, ?_⟩
    · rw [zhj l, zhj l2, ← le]
      simpa using hcond.2
    · exact q W σ _ (zeR hR h hc h1 (.refl H) h3 ⟨fun _ z => (nomatch z), fun _ _ z => (nomatch z)⟩ (zm1 l2 rp2 l rp))
end
end L2.LW
set_option linter.all false
set_option maxHeartbeats 4000000
namespace L2.LW
open PySem PySem.Spec PySem.W PySem.Calls PyProof.Rows
section
variable {prog : Program} {w : World} {A : Around} {E : Value → Shared → Prop}
theorem zm2 {j l : Addr} {its : Array Value} (ne : l ≠ j) : ∀ (n i : Nat) (s : Shared) (Q : List Value → Shared → Prop), s.heap.IsListIter j l i → s.heap.IsList l its → i + n ≤ its.size →
    (∀ g, g.IsListIter j l (i + n) → Heap.SameBut j s.heap g → Q ((its.toList.drop i).take n) { s with heap := g }) → wpAny (model prog w) A (draw (.ref j) n) Q E s := by
  intro n
  induction n with
  | zero =>
    intro i s Q h1 _ _ q
    have q0 := q s.heap h1 (Heap.SameBut.refl ..)
    exact wpAny_pure (by simpa using q0)
  | succ n ih =>
    intro i s Q h1 h2 h3 q
    have lt : i < its.size := by omega
    refine wpAny_bind (m := pyNext (.ref j)) (wpAny_pyNext_list_item h1 h2 (x := its[i]) (by simp [lt]) fun g1 p1 p2 => ?_)
    refine wpAny_bind (wpAny_holding (ih (i + 1) _ _ p1 (h2.extBut p2.extBut ne) (by omega) fun g2 p3 p4 => wpAny_pure ?_))
    have q0 := q g2 (by rw [show i + (n + 1) = i + 1 + n by omega]; exact p3) (p2.trans p4)
    have e : its.toList.drop i = its[i] :: its.toList.drop (i + 1) := by simp [List.drop_eq_getElem_cons, lt]
    rw [e, List.take_succ_cons] at q0
    exact q0
theorem zjK {s : Shared} {l : Addr} {its : Array Value} {tgs : List (Bool × (Value → Sem Unit))} {Q : Unit → Shared → Prop} (hh : A.handled = Option.none) (hl : s.heap.IsList l its)
    (hn : tgs.length = its.size) (hs : tgs.findIdx? (·.1) = Option.none)
    (q : ∀ g, Heap.ExtBut s.heap.objs.size s.heap g → wpAny (model prog w) A (assignInOrder (tgs.map (·.2)) its.toList) Q E { s with heap := g }) :
    wpAny (model prog w) A (unpack (.ref l) tgs) Q E s := by
  have ne : l ≠ s.heap.objs.size := by obtain ⟨o, ho, _⟩ := hl; exact Nat.ne_of_lt (Heap.lt_size ho)
  unfold unpack
  rw [hn, hs]
  refine wpAny_bind (wpAny_holding ?_)
  unfold unpackItems
  refine wpAny_bind ?_
  unfold notIterableAtAll
  refine wpAny_bind (wpAny_specialOf hl.typeIs slot_list_iter.lookup (wpAny_pure ?_))
  simp only [Bool.false_eq_true, if_false]
  refine wpAny_bind (wpAny_holding (wpAny_pyIter_list hl (wpAny_bind (wpAny_holding (zm2 ne its.size 0 _ _ ⟨_, Heap.get?_push_size _ rfl, rfl, rfl⟩ (hl.push _) (by omega) fun g1 i1 s1 => ?_)))))
  have al : List.take its.size (List.drop 0 its.toList) = its.toList := by
    rw [List.drop_zero, List.take_of_length_le]; simp
  rw [al, if_neg (by simp)]
  refine wpAny_bind (wpAny_holding (wpAny_pyNext_list_end hh i1 ((hl.push _).extBut s1.extBut ne) (by simp) fun g2 e2 => ?_))
  simp only [Option.isSome_none, Bool.false_eq_true, if_false]
  exact wpAny_pure (q g2 fun b o hb e => e2 b o hb (s1.extBut b o hb (Heap.get?_push_of_some _ e)))
end
section
variable {X : Cx} {pos : Pos}
noncomputable def gLst (K : PySem.W.Frag) (n : Nat) (t : TGs) : TG := fun v σ H Q => ∃ a xs, v = .ref a ∧ SqL K H a xs ∧ xs.length = n ∧ t xs σ H Q
theorem zsW {es : List Expr} {k n : Nat} {t : TGs} (hc : X.calm = true) (h : PGs X es t) (hn : (assignEach es X.env).length = n := by rfl)
    (hst : (assignEach es X.env).findIdx? (·.1) = Option.none := by rfl) : PG X (.Tuple es k pos) (gLst X.K n t) := by
  rintro pins s σ H v u Q I r ⟨a, xs, rfl, hq, hl, hw⟩
  cases r
  obtain ⟨its, rv, pl, -⟩ := I.list hq
  rw [assign_Tuple]
  refine wpAny_bind (wpAny_standAt (zjK (I.ok.hd hc) pl.isList (by simp [hn, ← hl, rv.length]) hst fun g hx => ?_))
  exact h pins _ σ H xs _ Q (I.kept (t' := s.toks) fun b o e => hx b o (Nat.ne_of_lt (Heap.lt_size e)) e) (by simpa using rv) hw
end
section
variable {X : Cx} {fa : Nat → List D → Option Ans} {fuel : Nat} {e : Expr} {ce : E} {pos : Pos} {x y z : Str}
theorem zsX (i j k : Nat) {px py pz pt : Pos} {kt : Nat} (hc : X.calm = true) (hN : X.N.Nodup) (hi : X.N[i]? = some x) (hx : Loc X.env.scope x) (hj : X.N[j]? = some y) (hy : Loc X.env.scope y) (hk : X.N[k]? = some z) (hz : Loc X.env.scope z)
    (he : IE X (prj fa) e ce) (hs : swapsWithSole [.Tuple [.Name x px, .Name y py, .Name z pz] kt pt] e pos.line X.env = pure false := by rfl)
    (hw : swappedStores [.Tuple [.Name x px, .Name y py, .Name z pz] kt pt] e X.env = pure Option.none := by rfl)
    (f1 : X.fn x = true ∨ X.env.scope.names.lookup x = some .local := by first | exact .inl rfl | exact .inr rfl | assumption) (f2 : X.fn y = true ∨ X.env.scope.names.lookup y = some .local := by first | exact .inl rfl | exact .inr rfl | assumption)
    (f3 : X.fn z = true ∨ X.env.scope.names.lookup z = some .local := by first | exact .inl rfl | exact .inr rfl | assumption) :
    IS X (exS fa fuel (.unp3 i j k ce)) (.Assign [.Tuple [.Name x px, .Name y py, .Name z pz] kt pt] e pos) :=
  .mk <| (zrY he.h (zsW hc (zgY (zea hN hi hx f1) (zgY (zea hN hj hy f2) (zgY (zea hN hk hz f3) zp7)))) hs hw).imp fun D σ H zz3 => by
    obtain ⟨W, ρ, y, hR, hy, q⟩ := zz3
    simp only [zqw, jo1] at hy
    obtain ⟨r, e1, e2⟩ := hy
    unfold zmk at e2
    split at e2
    case h_2 => cases e2
    rename_i d1 d2 d3
    split at e2
    case isFalse => cases e2
    rename_i hf
    cases e2
    simp only [Bool.and_eq_true] at hf
    refine ⟨W, ρ, _, hR, e1, fun v H1 s1 h => ?_⟩
    cases h with
    | new h e r =>
      cases r with
      | lst r =>
        have r' := r.less (W' := W) fun a wa => .inl wa
        cases r' with
        | cons ra rp =>
          cases rp with
          | cons rb rp =>
            cases rp with
            | cons rc rp =>
              cases rp
              refine ⟨_, _, rfl, .of e, rfl, _, _, rfl, _, _, rfl, _, _, rfl, rfl, ?_⟩
              have p1 := za4 (i := i) hR s1 ra (zbX (by simpa using hf.1.1))
              have p2 := za4 (i := j) p1.r (.refl H1) rb fun z => zbX (by simpa using hf.1.2) ((p1.io j).1.mp z)
              have p3 := za4 (i := k) p2.r (.refl H1) rc fun z => zbX (by simpa using hf.2) ((p1.io k).1.mp ((p2.io k).1.mp z))
              exact q W _ H1 ((p1.trans p2 hR).trans p3 hR)
end
end L2.LW
set_option linter.all false
set_option maxHeartbeats 4000000
set_option linter.all false
set_option maxHeartbeats 4000000
set_option linter.all false
set_option maxHeartbeats 4000000
set_option linter.all false
set_option maxHeartbeats 4000000
namespace L2.LW
open PySem PySem.Spec PySem.W PySem.Calls PyProof.Rows
noncomputable def FlXOk (K : PySem.W.Frag) (cl : Nat → Value) (E : XK) (W : Addr → Prop) (ρ : LW.Env) (σ : St) (W' : Addr → Prop) (ρ' : LW.Env) (σ' : St) (H' : Hp) (D : Ends) : FlX → Prop
  | .fl f => FlOk K W ρ σ W' ρ' σ' H' D f
  | .ex c => E (cl c) Option.none H'
theorem FlXOk.back {K : PySem.W.Frag} {cl : Nat → Value} {E : XK} {W W1 W2 : Addr → Prop} {ρ ρ1 ρ2 : LW.Env} {σ σ1 σ2 : St} {H H1 H2 : Hp} {D : Ends} {fl : FlX} (p : SPost K W ρ σ H W1 ρ1 σ1 H1) (h : FlXOk K cl E W ρ σ W2 ρ2 σ2 H2 D fl) : FlXOk K cl E W1 ρ1 σ1 W2 ρ2 σ2 H2 D fl := by
  cases fl with
  | fl f => exact FlOk.back (ρ2 := ρ2) p h
  | ex c => exact h
section
variable {X : Cx} {cl : Nat → Value} {E : XK} {fa : Nat → List D → Option Ans} {fuel : Nat} {st : Stmt} {sts sts' : List Stmt} {s : S} {t : T} {ts t1 t2 : Ts} {e c : Expr} {es : List Expr} {cs : Es} {cc : LW.E} {x y : Str} {p pos : Pos}
noncomputable def tCx (K : PySem.W.Frag) (cl : Nat → Value) (E : XK) (fa : Nat → List D → Option Ans) (i : Nat) (cs : Es) : TE := fun σ H Q => ∃ W ρ a, R K W ρ σ H ∧ ansX fa i cs ρ = some a ∧ match a with
  | .ok r [] => ∀ v H', Same H H' → Res K W H H' r v → Q v H'
  | .ok _ _ => False
  | .ex c => ∀ H', Same H H' → E (cl c) Option.none H'
section
variable {i : Nat} (hp : PE X e (tCx X.K cl E fa i cs))
include hp
end
end
end L2.LW
set_option linter.all false
set_option maxHeartbeats 4000000
set_option linter.all false
set_option maxHeartbeats 4000000
set_option linter.all false
set_option maxHeartbeats 4000000
namespace L2.LW
open PySem PySem.Spec PySem.W PySem.Calls PyProof.Rows
theorem all_cons {P : Nat → Prop} {a : Nat} {l : List Nat} (h : P a) (t : ∀ c ∈ l, P c) : ∀ c ∈ a :: l, P c := fun c hc => by
  rcases List.mem_cons.mp hc with rfl | hc
  · exact h
  · exact t c hc
end L2.LW
set_option linter.all false
set_option maxHeartbeats 4000000
set_option maxRecDepth 100000
set_option linter.all false
set_option maxHeartbeats 4000000
set_option linter.all false
set_option maxHeartbeats 4000000
set_option linter.all false
set_option maxHeartbeats 4000000
set_option linter.all false
namespace L2.LW
open PySem
section
variable {fn : Nat → List D → Option SV} {fa : Nat → List D → Option Ans} {fuel : Nat} {ρ : Env}
@[simp] theorem zwj {i : Int} : evE fn (.int i) ρ = some (.val (.int i)) := rfl
@[simp] theorem zxh {i : Bool} : evE fn (.bl i) ρ = some (.val (.bl i)) := rfl
@[simp] theorem zwk : evE fn .non ρ = some (.val .non) := rfl
@[simp] theorem zwl {i : Str} : evE fn (.str i) ρ = some (.val (.str i)) := rfl
@[simp] theorem zm3 {i : Nat} : evE fn (.var i) ρ = look ρ i := rfl
@[simp] theorem zus {p : Prim} {es : Es} : evE fn (.prim p es) ρ = (evEs fn es ρ).bind fun rs => zaj p (rs.map seeD) := rfl
@[simp] theorem zwm {es : Es} : evE fn (.tup es) ρ = (evEs fn es ρ).bind fun rs => (toDs rs).map fun ds => .val (.tup ds) := rfl
@[simp] theorem zwn {es : Es} : evE fn (.lst es) ρ = (evEs fn es ρ).bind fun rs => (toDs rs).map fun ds => .obj true (.lst ds) := rfl
noncomputable def andV (r : SV) (k : Option SV) : Option SV := match r with
  | .val (.bl true) => k
  | .val (.bl false) => some (.val (.bl false))
  | _ => none
noncomputable def orV (r : SV) (k : Option SV) : Option SV := match r with
  | .val (.bl true) => some (.val (.bl true))
  | .val (.bl false) => k
  | _ => none
noncomputable def notV (r : SV) : Option SV := match r with
  | .val (.bl b) => some (.val (.bl (!b)))
  | _ => none
@[simp] theorem zwo {b : Bool} {k : Option SV} : andV (.val (.bl b)) k = if b then k else some (.val (.bl false)) := by cases b <;> rfl
@[simp] theorem zxi {b : Bool} {k : Option SV} : orV (.val (.bl b)) k = if b then some (.val (.bl true)) else k := by cases b <;> rfl
@[simp] theorem zwp {b : Bool} : notV (.val (.bl b)) = some (.val (.bl (!b))) := rfl
@[simp] theorem zwq {a b : E} : evE fn (.and a b) ρ = (evE fn a ρ).bind fun r => andV r (evE fn b ρ) := rfl
@[simp] theorem zxj {a b : E} : evE fn (.or a b) ρ = (evE fn a ρ).bind fun r => orV r (evE fn b ρ) := rfl
@[simp] theorem zwr {a : E} : evE fn (.not a) ρ = (evE fn a ρ).bind notV := rfl
@[simp] theorem zsY {p q : Prim} {a b c : E} : evE fn (.chain p q a b c) ρ = (evE fn a ρ).bind fun x => (evE fn b ρ).bind fun y => (zaj p [seeD x, seeD y]).bind fun z => andV z ((evE fn c ρ).bind fun w => zaj q [seeD y, seeD w]) := rfl
@[simp] theorem zws {c a b : E} : evE fn (.ite c a b) ρ = (evT fn c ρ).bind fun k => if k then evE fn a ρ else evE fn b ρ := rfl
@[simp] theorem zut {f : Nat} {es : Es} : evE fn (.call f es) ρ = (evEs fn es ρ).bind fun rs => zeb rs (fn f (rs.map seeD)) := rfl
theorem zoC {g : Bool} {src : Es} {cond elt : E} : evE fn (.comp g src cond elt) ρ = (evEs fn src ρ).bind fun rs => (zaH g rs).bind fun ds =>
    if ds.length ≤ line then (zdn (fun d => evT fn cond (some (.val d) :: ρ)) (fun d => evE fn elt (some (.val d) :: ρ)) ds).map fun l => .obj true (.lst l) else none := rfl
@[simp] theorem zuu {t : Bool} : evE fn (.dnew t) ρ = some (.obj true (.dct t [] [])) := rfl
@[simp] theorem zuv {t : Bool} {k v : E} : evE fn (.done t k v) ρ = (evE fn k ρ).bind fun x => (evE fn v ρ).bind fun y => (toD x).bind fun a => (toD y).bind fun b => if zbH t a then some (.obj true (.dct t [a] [b])) else none := rfl
@[simp] theorem zkB : evEs fn .nil ρ = some [] := rfl
@[simp] theorem zis {e : E} {es : Es} : evEs fn (.cons e es) ρ = (evE fn e ρ).bind fun r => (evEs fn es ρ).map (r :: ·) := rfl
@[simp] theorem zqX {a b : E} : evT fn (.and a b) ρ = (evT fn a ρ).bind fun k => if k then evT fn b ρ else some false := rfl
@[simp] theorem zxk {a b : E} : evT fn (.or a b) ρ = (evT fn a ρ).bind fun k => if k then some true else evT fn b ρ := rfl
@[simp] theorem zwt {a : E} : evT fn (.not a) ρ = (evT fn a ρ).map (!·) := rfl
@[simp] theorem zwu {i : Int} : evT fn (.int i) ρ = some (i != 0) := rfl
@[simp] theorem zsZ {i : Bool} : evT fn (.bl i) ρ = some i := rfl
@[simp] theorem zwv {i : Nat} : evT fn (.var i) ρ = (look ρ i).bind zbI := rfl
@[simp] theorem zuw {p : Prim} {es : Es} : evT fn (.prim p es) ρ = (evEs fn es ρ).bind fun rs => (zaj p (rs.map seeD)).bind zbI := rfl
@[simp] theorem zux {f : Nat} {es : Es} : evT fn (.call f es) ρ = (evEs fn es ρ).bind fun rs => (zeb rs (fn f (rs.map seeD))).bind zbI := rfl
noncomputable def andT (r : SV) (k : Option Bool) : Option Bool := match r with
  | .val (.bl true) => k
  | .val (.bl false) => some false
  | _ => none
@[simp] theorem zww {b : Bool} {k : Option Bool} : andT (.val (.bl b)) k = if b then k else some false := by cases b <;> rfl
@[simp] theorem zs0 {p q : Prim} {a b c : E} : evT fn (.chain p q a b c) ρ = (evE fn a ρ).bind fun x => (evE fn b ρ).bind fun y => (zaj p [seeD x, seeD y]).bind fun z => andT z ((evE fn c ρ).bind fun w => (zaj q [seeD y, seeD w]).bind zbI) := rfl
@[simp] theorem zuy {e : E} : exS fa fuel (.expr e) ρ = (evE (prj fa) e ρ).map fun _ => (.nx, ρ) := rfl
@[simp] theorem zwx {i : Nat} {e : E} : exS fa fuel (.asg i e) ρ = (evE (prj fa) e ρ).bind fun r => if r.lent || !free ρ i then none else some (.nx, ρ.set i (some r)) := rfl
noncomputable def za5 : Option (Option SV) → Bool
  | some (some (.io _)) => false
  | _ => true
@[simp] theorem zm4 {i : Nat} : free ρ i = za5 ρ[i]? := by
  unfold free za5
  rcases h : ρ[i]? with _ | _ | (d | ⟨o, d⟩ | d) <;> rfl
@[simp] theorem zrx : za5 none = true := rfl
@[simp] theorem zuz : za5 (some none) = true := rfl
@[simp] theorem zbk {d : D} : za5 (some (some (.val d))) = true := rfl
@[simp] theorem zm5 {o : Bool} {d : D} : za5 (some (some (.obj o d))) = true := rfl
noncomputable def movS (ρ : Env) (i j : Nat) : Option (Option SV) → Option (Fl × Env)
  | some (some (.val d)) => some (.nx, ρ.set i (some (.val d)))
  | some (some (.obj _ d)) => some (.nx, (ρ.set j (some (.val d))).set i (some (.val d)))
  | _ => none
@[simp] theorem zuA {i j : Nat} {d : D} : movS ρ i j (some (some (.val d))) = some (.nx, ρ.set i (some (.val d))) := rfl
@[simp] theorem zuB {i j : Nat} {o : Bool} {d : D} : movS ρ i j (some (some (.obj o d))) = some (.nx, (ρ.set j (some (.val d))).set i (some (.val d))) := rfl
@[simp] theorem zwy {i j : Nat} : exS fa fuel (.mov i j) ρ = if free ρ i then movS ρ i j ρ[j]? else none := by
  rw [zpx]
  rcases h : ρ[j]? with _ | _ | (d | ⟨o, d⟩ | d) <;> rfl
noncomputable def frzS (ρ : Env) (j : Nat) : Option (Option SV) → Option (List D × Env)
  | some (some (.val d)) => (ze5 d).map fun l => (l, ρ)
  | some (some (.obj _ (.lst ds))) => some (ds, ρ.set j (some (.val (.lst ds))))
  | _ => none
@[simp] theorem zuC {j : Nat} {d : D} : frzS ρ j (some (some (.val d))) = (ze5 d).map fun l => (l, ρ) := rfl
@[simp] theorem zuD {j : Nat} {o : Bool} {ds : List D} : frzS ρ j (some (some (.obj o (.lst ds)))) = some (ds, ρ.set j (some (.val (.lst ds)))) := rfl
@[simp] theorem zs1 {j : Nat} : zgv ρ j = frzS ρ j ρ[j]? := by
  unfold zgv frzS
  rcases h : ρ[j]? with _ | _ | (d | ⟨o, d⟩ | d) <;> rfl
@[simp] theorem zs3 {l : List D} : ze5 (.tup l) = some l := rfl
@[simp] theorem zs4 {l : List D} : ze5 (.lst l) = some l := rfl
noncomputable def appV (ρ : Env) (i : Nat) (x : SV) (r : Option SV) : Option D → Option (Fl × Env)
  | some (.lst ds) => r.bind fun r => (toD r).bind fun d => if ds.length < line then some (.nx, ρ.set i (some (x.put (.lst (ds ++ [d]))))) else none
  | _ => none
noncomputable def appS (ρ : Env) (i : Nat) (r : Option SV) : Option (Option SV) → Option (Fl × Env)
  | some (some x) => appV ρ i x r x.cell
  | _ => none
@[simp] theorem zeU {i : Nat} {r : Option SV} {ds : List D} : appS ρ i r (some (some (.obj true (.lst ds)))) = r.bind fun r => (toD r).bind fun d => if ds.length < line then some (.nx, ρ.set i (some (.obj true (.lst (ds ++ [d]))))) else none := rfl
@[simp] theorem zwz {i : Nat} {e : E} : exS fa fuel (.app i e) ρ = appS ρ i (evE (prj fa) e ρ) ρ[i]? := by
  rw [zpy]
  rcases h : ρ[i]? with _ | _ | (d | ⟨_ | _, d⟩ | d)
  · rfl
  · rfl
  · rfl
  · rfl
  · cases d <;> rfl
  · cases d <;> rfl
noncomputable def zwA (ρ : Env) (i : Nat) (x : SV) (rk rv : Option SV) : Option D → Option (Fl × Env)
  | some (.dct t ks vs) => rv.bind fun r => (toD r).bind fun d => rk.bind fun r => (toD r).bind fun a => if zbH t a && decide (ks.length < line) then some (.nx, ρ.set i (some (x.put (dput t ks vs a d)))) else none
  | _ => none
noncomputable def zls (ρ : Env) (i : Nat) (rk rv : Option SV) : Option (Option SV) → Option (Fl × Env)
  | some (some x) => zwA ρ i x rk rv x.cell
  | _ => none
@[simp] theorem zm6 {i : Nat} {rk rv : Option SV} {t : Bool} {ks vs : List D} : zls ρ i rk rv (some (some (.obj true (.dct t ks vs)))) = rv.bind fun r => (toD r).bind fun d => rk.bind fun r => (toD r).bind fun a => if zbH t a && decide (ks.length < line) then some (.nx, ρ.set i (some (.obj true (dput t ks vs a d)))) else none := rfl
@[simp] theorem zoD {i : Nat} {rk rv : Option SV} {t : Bool} {ks vs : List D} : zls ρ i rk rv (some (some (.io (.dct t ks vs)))) = rv.bind fun r => (toD r).bind fun d => rk.bind fun r => (toD r).bind fun a => if zbH t a && decide (ks.length < line) then some (.nx, ρ.set i (some (.io (dput t ks vs a d)))) else none := rfl
@[simp] theorem zuE {i : Nat} {k v : E} : exS fa fuel (.dset i k v) ρ = zls ρ i (evE (prj fa) k ρ) (evE (prj fa) v ρ) ρ[i]? := by
  rw [zmo]
  rcases h : ρ[i]? with _ | _ | (d | ⟨_ | _, d⟩ | d)
  · rfl
  · rfl
  · rfl
  · rfl
  · cases d <;> rfl
  · cases d <;> rfl
@[simp] theorem zuF {i j k : Nat} {e : E} : exS fa fuel (.unp3 i j k e) ρ = (evE (prj fa) e ρ).bind (zmk ρ i j k) := rfl
@[simp] theorem zuG {i j : Nat} : exS fa fuel (.dupd i j) ρ = zmj ρ i j := rfl
@[simp] theorem zs5 {m : M} : exS fa fuel (.exprM m) ρ = (evM fa m ρ).map fun x => (.nx, x.2) := rfl
@[simp] theorem zuH {i : Nat} {m : M} : exS fa fuel (.asgM i m) ρ = (evM fa m ρ).bind fun x => if x.1.lent || !free x.2 i then none else some (.nx, x.2.set i (some (.val (seeD x.1)))) := rfl
@[simp] theorem zwB {c : E} {m : M} {a b : Ss} : exS fa fuel (.ifO c m a b) ρ = (evT (prj fa) c ρ).bind fun k => if k then exSs fa fuel a ρ else (evM fa m ρ).bind fun x => (zbI x.1).bind fun k => if k then exSs fa fuel a x.2 else exSs fa fuel b x.2 := rfl
noncomputable def zpI (ρ : Env) (xs : List AV) : Ans → Option (SV × Env)
  | .ok r outs => if r.fine && outs.all zbO then (putO ρ xs outs).map fun ρ' => (r, ρ') else none
  | .ex _ => none
@[simp] theorem zs6 {xs : List AV} {r : SV} {outs : List D} : zpI ρ xs (.ok r outs) = if r.fine && outs.all zbO then (putO ρ xs outs).map fun ρ' => (r, ρ') else none := rfl
@[simp] theorem zuI {f : Nat} {ma : MA} : evM fa (.call f ma) ρ = (evMA (prj fa) ma ρ).bind fun xs => (fa f (xs.map seeA)).bind (zpI ρ xs) := rfl
noncomputable def opMR (p : Prim) (k : Option (SV × Env)) : SV → Option (SV × Env)
  | .val d => if plain d then k.bind fun y => (zaj p [d, seeD y.1]).map fun z => (z, y.2) else none
  | _ => none
@[simp] theorem zuJ {p : Prim} {k : Option (SV × Env)} {d : D} : opMR p k (.val d) = if plain d then k.bind fun y => (zaj p [d, seeD y.1]).map fun z => (z, y.2) else none := rfl
@[simp] theorem zxl {p : Prim} {a : E} {m : M} : evM fa (.op p a m) ρ = (evE (prj fa) a ρ).bind (opMR p (evM fa m ρ)) := rfl
@[simp] theorem zuK : evMA fn .nil ρ = some [] := rfl
@[simp] theorem zxm {c : E} {r : MA} : evMA fn (.e c r) ρ = (evE fn c ρ).bind fun x => (avOf x).bind fun a => (evMA fn r ρ).map (a :: ·) := rfl
noncomputable def zoE : Option (Option SV) → Option D
  | some (some x) => x.cell
  | _ => none
@[simp] theorem zry {i : Nat} : zcD ρ i = zoE ρ[i]? := by
  unfold zcD zoE
  rcases h : ρ[i]? with _ | _ | (d | ⟨_ | _, d⟩ | d) <;> rfl
@[simp] theorem zs7 {d : D} : zoE (some (some (.obj true d))) = some d := rfl
@[simp] theorem zuL {d : D} : zoE (some (some (.io d))) = some d := rfl
@[simp] theorem zxn {i : Nat} {r : MA} : evMA fn (.s i r) ρ = (zcD ρ i).bind fun d => if zf7 d then (evMA fn r ρ).map (.s i d :: ·) else none := rfl
@[simp] theorem zxo {t : Bool} {r : MA} : evMA fn (.n t r) ρ = (evMA fn r ρ).map (.n t :: ·) := rfl
@[simp] theorem zuM : putO ρ [] [] = some ρ := rfl
@[simp] theorem zxp {i : Nat} {d d' : D} {r : List AV} {ds : List D} : putO ρ (.s i d :: r) (d' :: ds) = putO (putS ρ i d') r ds := rfl
@[simp] theorem zxq {t : Bool} {d' : D} {r : List AV} {ds : List D} : putO ρ (.n t :: r) (d' :: ds) = putO ρ r ds := rfl
@[simp] theorem zxr {d : D} {r : List AV} {ds : List D} : putO ρ (.e d :: r) ds = putO ρ r ds := rfl
@[simp] theorem zxs {d : List D} {r : List AV} {ds : List D} : putO ρ (.l d :: r) ds = putO ρ r ds := rfl
noncomputable def zoF (ρ : Env) (i : Nat) (d : D) : Option (Option SV) → Env
  | some (some x) => ρ.set i (some (x.put d))
  | _ => ρ
@[simp] theorem zwC {i : Nat} {d : D} : putS ρ i d = zoF ρ i d ρ[i]? := by
  unfold putS zoF
  rcases h : ρ[i]? with _ | _ | (d | ⟨_ | _, d⟩ | d) <;> rfl
@[simp] theorem zs8 {i : Nat} {d d0 : D} : zoF ρ i d (some (some (.obj true d0))) = ρ.set i (some (.obj true d)) := rfl
@[simp] theorem zuN {i : Nat} {d d0 : D} : zoF ρ i d (some (some (.io d0))) = ρ.set i (some (.io d)) := rfl
@[simp] theorem zxt {d : D} : seeA (.e d) = d := rfl
@[simp] theorem zxu {d : List D} : seeA (.l d) = .lst d := rfl
@[simp] theorem zxv {i : Nat} {d : D} : seeA (.s i d) = d := rfl
@[simp] theorem zxw {t : Bool} : seeA (.n t) = .dct t [] [] := rfl
@[simp] theorem zuO {l : List D} : avOf (.val (.tup l)) = if plain (.tup l) then some (.e (.tup l)) else none := rfl
@[simp] theorem zuP {i : Int} : avOf (.val (.int i)) = some (.e (.int i)) := by simp [avOf, plain]
@[simp] theorem zwD {i : Bool} : avOf (.val (.bl i)) = some (.e (.bl i)) := by simp [avOf, plain]
@[simp] theorem zoG {l : List D} : avOf (.val (.lst l)) = if zbq l then some (.l l) else none := rfl
@[simp] theorem zoH {o : Bool} {l : List D} : avOf (.obj o (.lst l)) = if zbq l then some (.l l) else none := rfl
@[simp] theorem zs9 {t : Bool} {ks vs : List D} : zf7 (.dct t ks vs) = zbq vs := rfl
@[simp] theorem zrz {t : Bool} {ks vs : List D} : zbO (.dct t ks vs) = zbq vs := rfl
@[simp] theorem zrA {vs : List D} : zbO (.lst vs) = zbq vs := rfl
@[simp] theorem zuQ {d : D} : SV.fine (.val d) = plain d := rfl
@[simp] theorem zuR {d : D} : SV.fine (.obj true d) = zbO d := rfl
@[simp] theorem zwE {e : E} : exS fa fuel (.ret e) ρ = (evE (prj fa) e ρ).bind fun r => if r.lent then none else some (.rt r, ρ) := rfl
noncomputable def retS (ρ : Env) (i : Nat) : Option (Option SV) → Option (Fl × Env)
  | some (some (.val d)) => some (.rt (.val d), ρ)
  | some (some (.obj _ d)) => some (.rt (.obj true d), ρ.set i none)
  | _ => none
@[simp] theorem zuS {i : Nat} {d : D} : retS ρ i (some (some (.val d))) = some (.rt (.val d), ρ) := rfl
@[simp] theorem zuT {i : Nat} {o : Bool} {d : D} : retS ρ i (some (some (.obj o d))) = some (.rt (.obj true d), ρ.set i none) := rfl
@[simp] theorem zuU {i : Nat} : exS fa fuel (.retV i) ρ = retS ρ i ρ[i]? := by
  rw [zmp]
  rcases h : ρ[i]? with _ | _ | (d | ⟨o, d⟩ | d) <;> rfl
@[simp] theorem zuV : exS fa fuel .retN ρ = some (.rt (.val .non), ρ) := rfl
@[simp] theorem zwF {c : E} {a b : Ss} : exS fa fuel (.ifs c a b) ρ = (evT (prj fa) c ρ).bind fun k => if k then exSs fa fuel a ρ else exSs fa fuel b ρ := rfl
theorem zek {i : Nat} {g : Bool} {src : Es} {body : Ss} : exS fa fuel (.for_ i g src body) ρ = (evEs (prj fa) src ρ).bind fun rs => if rs.any SV.lent || !free ρ i then none else (zaH g rs).bind fun ds => forL i (exSs fa fuel body) ds ρ := rfl
theorem zeV {i j : Nat} {body : Ss} : exS fa fuel (.forV i j body) ρ = if free ρ i then (zgv ρ j).bind fun x => forL i (exSs fa fuel body) x.1 x.2 else none := rfl
theorem zfj {c : E} {body : Ss} : exS fa fuel (.while_ c body) ρ = zcy (evT (prj fa) c) (exSs fa fuel body) fuel ρ := rfl
noncomputable def zoI (ρ : Env) (j : Nat) : Option (Option SV) → Env
  | some (some (.obj true d)) => ρ.set j (some (.val d))
  | _ => ρ
@[simp] theorem zwG {j : Nat} : frz1 ρ j = zoI ρ j ρ[j]? := by
  unfold frz1 zoI
  rcases h : ρ[j]? with _ | _ | (d | ⟨_ | _, d⟩ | d) <;> rfl
@[simp] theorem zta {j : Nat} {d : D} : zoI ρ j (some (some (.val d))) = ρ := rfl
@[simp] theorem ztb {j : Nat} {d : D} : zoI ρ j (some (some (.obj true d))) = ρ.set j (some (.val d)) := rfl
@[simp] theorem zwH {js : List Nat} {s : S} : exS fa fuel (.frz js s) ρ = exS fa fuel s (js.foldl frz1 ρ) := rfl
@[simp] theorem zwI : exS fa fuel .brk ρ = some (.br, ρ) := rfl
@[simp] theorem zwJ : exS fa fuel .cnt ρ = some (.ct, ρ) := rfl
@[simp] theorem zuW : exS fa fuel .pass ρ = some (.nx, ρ) := rfl
@[simp] theorem zuX : exS fa fuel .stop ρ = none := rfl
@[simp] theorem zuY : exSs fa fuel .nil ρ = some (.nx, ρ) := rfl
noncomputable def zfk (x : Fl × Env) (k : Env → Option (Fl × Env)) : Option (Fl × Env) := match x.1 with
  | .nx => k x.2
  | _ => some x
@[simp] theorem zrB {ρ : Env} {k : Env → Option (Fl × Env)} : zfk (.nx, ρ) k = k ρ := rfl
@[simp] theorem zrC {ρ : Env} {k : Env → Option (Fl × Env)} : zfk (.br, ρ) k = some (.br, ρ) := rfl
@[simp] theorem zrD {ρ : Env} {k : Env → Option (Fl × Env)} : zfk (.ct, ρ) k = some (.ct, ρ) := rfl
@[simp] theorem zrE {ρ : Env} {r : SV} {k : Env → Option (Fl × Env)} : zfk (.rt r, ρ) k = some (.rt r, ρ) := rfl
@[simp] theorem zfl {s : S} {ss : Ss} : exSs fa fuel (.cons s ss) ρ = (exS fa fuel s ρ).bind fun x => zfk x (exSs fa fuel ss) := by
  exact id rfl
noncomputable def zga : Option (Fl × Env) → Option SV
  | some (.rt r, _) => some r
  | some (.nx, _) => some (.val .non)
  | _ => none
@[simp] theorem zuZ {r : SV} {ρ : Env} : zga (some (.rt r, ρ)) = some r := rfl
@[simp] theorem zu0 {ρ : Env} : zga (some (.nx, ρ)) = some (.val .non) := rfl
@[simp] theorem zrF : zga none = none := rfl
@[simp] theorem ztc {c : Prop} [Decidable c] {a b : Option (Fl × Env)} : zga (if c then a else b) = if c then zga a else zga b := by split <;> rfl
end
noncomputable def zlt : Option (Option SV) → Option SV
  | some (some (.val d)) => some (.val d)
  | some (some (.obj _ d)) => some (.obj false d)
  | some (some (.io d)) => some (.obj false d)
  | _ => none
@[simp] theorem zwK {ρ : Env} {i : Nat} : look ρ i = zlt ρ[i]? := by
  unfold look zlt
  rcases h : ρ[i]? with _ | _ | (d | ⟨o, d⟩ | d) <;> rfl
@[simp] theorem ztd {d : D} : zlt (some (some (.val d))) = some (.val d) := rfl
@[simp] theorem zte {o : Bool} {d : D} : zlt (some (some (.obj o d))) = some (.obj false d) := rfl
@[simp] theorem zu1 {d : D} : zlt (some (some (.io d))) = some (.obj false d) := rfl
@[simp] theorem zrG : zlt (some none) = none := rfl
@[simp] theorem zu2 {d : D} : seeD (.val d) = d := rfl
@[simp] theorem zu3 {o : Bool} {d : D} : seeD (.obj o d) = d := rfl
@[simp] theorem zfm {d : D} : toD (.val d) = some d := rfl
@[simp] theorem zqY {d : D} : toD (.obj true d) = some d := rfl
@[simp] theorem zu4 : toDs [] = some [] := rfl
@[simp] theorem ztf {r : SV} {rs : List SV} : toDs (r :: rs) = (toD r).bind fun d => (toDs rs).map (d :: ·) := rfl
@[simp] theorem zu5 {d : D} : SV.lent (.val d) = false := rfl
@[simp] theorem zu6 {d : D} : SV.lent (.obj true d) = false := rfl
@[simp] theorem zu7 {d : D} : SV.lent (.obj false d) = true := rfl
@[simp] theorem zu8 {i : Int} : zbV i = some (.val (.int i)) := rfl
@[simp] theorem zwL {i : Bool} : okBl i = some (.val (.bl i)) := rfl
@[simp] theorem zu9 {b : Bool} : zbI (.val (.bl b)) = some b := rfl
@[simp] theorem ztg {i : Int} : zbI (.val (.int i)) = some (i != 0) := rfl
@[simp] theorem zth : zbI (.val .non) = some false := rfl
@[simp] theorem zti {l : List D} : zbI (.val (.tup l)) = some (!l.isEmpty) := rfl
@[simp] theorem ztj {l : List D} : zbI (.val (.lst l)) = some (!l.isEmpty) := rfl
@[simp] theorem ztk {o : Bool} {l : List D} : zbI (.obj o (.lst l)) = some (!l.isEmpty) := rfl
theorem zm7 {rs : List SV} {r : Option SV} (h : rs.any SV.lent = false) : zeb rs r = r := by
  unfold zeb; rw [h]; cases r <;> rfl
theorem zjL {rs : List SV} {x : SV} (h : x.plain = true) : zeb rs (some x) = some x := by
  unfold zeb; simp [h]
@[simp] theorem zpJ {rs : List SV} {x : Option SV} (h : rs.any SV.lent = false) : zeb rs x = x := zm7 h
@[simp] theorem zva {rs : List SV} {x : SV} (h : x.plain = true) : zeb rs (some x) = some x := zjL h
@[simp] theorem zrH {d : D} : SV.plain (.val d) = plain d := rfl
@[simp] theorem zrI {o : Bool} {d : D} : SV.plain (.obj o d) = zbO d := rfl
@[simp] theorem ztl {i : Int} : plain (.int i) = true := by simp [plain]
@[simp] theorem zvb {i : Bool} : plain (.bl i) = true := by simp [plain]
@[simp] theorem ztm : plain .non = true := by simp [plain]
@[simp] theorem ztn {i : Str} : plain (.str i) = true := by simp [plain]
@[simp] theorem zto {l : List D} : plain (.tup l) = zbq l := rfl
@[simp] theorem ztp {l : List D} : plain (.lst l) = false := rfl
@[simp] theorem ztq {t : Bool} {a b : List D} : plain (.dct t a b) = false := rfl
@[simp] theorem zrJ : zbq [] = true := rfl
@[simp] theorem zqZ {x : D} {xs : List D} : zbq (x :: xs) = (plain x && zbq xs) := rfl
@[simp] theorem ztr {P : Nat → Option Fn} {fuel n : Nat} : prj (zas P fuel n) = zaX P fuel n := rfl
theorem zit : ∀ (k : Nat) (ds : List D), zdb [] k ds = ds.map fun d => some (.val d)
  | _, [] => rfl
  | k, d :: r => by simp [zdb, zit (k + 1) r]
theorem zq0 (x : Option (Fl × Env)) : (match endA [] x with | some (.ok r []) => some r | _ => none) = zga x := by
  rcases x with _ | ⟨_ | _ | _ | r, ρ⟩ <;> rfl
theorem zlu {P : Nat → Option Fn} {fuel n i : Nat} {F : Fn} {ds : List D} (h : P i = some F) (hl : ds.length = F.np) (hio : F.io = []) (hx : F.xb = none := by rfl) :
    zaX P fuel (n + 1) i ds = zga (exSs (zas P fuel n) fuel F.body (ds.map (fun d => some (.val d)) ++ List.replicate (F.nl - F.np) none)) := by
  unfold zaX prj
  rw [zas, h]
  simp only [Option.bind_some, if_pos hl, hio, zit, hx]
  exact zq0 _
theorem zlv {P : Nat → Option Fn} {fuel n i : Nat} {F : Fn} {ds : List D} (h : P i = some F) (hl : ds.length = F.np) (hx : F.xb = none := by rfl) :
    zas P fuel (n + 1) i ds = endA F.io (exSs (zas P fuel n) fuel F.body (zdb F.io 0 ds ++ List.replicate (F.nl - F.np) none)) := by
  rw [zas, h]
  simp only [Option.bind_some, if_pos hl, hx]
@[simp] theorem zxE {a b : Int} : zaj .add [.int a, .int b] = some (.val (.int (a + b))) := rfl
theorem zts {a b : List D} (h : a.length + b.length ≤ line) : zaj .add [.lst a, .lst b] = some (.obj true (.lst (a ++ b))) := by simp only [zaj, pAdd, if_pos h]
@[simp] theorem zxF {a b : Int} : zaj .sub [.int a, .int b] = some (.val (.int (a - b))) := rfl
theorem ztt {a b : Int} (h : -(2 ^ 64) < b ∧ b < 2 ^ 64) : zaj .mul [.int a, .int b] = some (.val (.int (a * b))) := by simp only [zaj, pMul, if_pos (Or.inr h : (-(2 ^ 64) < a ∧ a < 2 ^ 64) ∨ _), zbV]
theorem zpK {a b : Int} (h : 0 < b ∧ b < 1073741824) : zaj .fdiv [.int a, .int b] = some (.val (.int (a / b))) := by simp only [zaj, zoc, if_pos h, zbV]
theorem zfn {a b : Int} (h : 0 < b) : zaj .mod [.int a, .int b] = some (.val (.int (a % b))) := by simp only [zaj, pMod, if_pos h, zbV]
@[simp] theorem zxG {a : Int} : zaj .neg [.int a] = some (.val (.int (-a))) := rfl
theorem p_eq {a b : D} (h : shal 8 a = true) (h' : shal 8 b = true) : zaj .eq [a, b] = some (.val (.bl (eqD a b))) := by simp [zaj, pEq, h, h']
theorem p_ne {a b : D} (h : shal 8 a = true) (h' : shal 8 b = true) : zaj .ne [a, b] = some (.val (.bl (!eqD a b))) := by simp [zaj, pNe, h, h']
@[simp] theorem zxH {a b : Int} : zaj .eq [.int a, .int b] = some (.val (.bl (a == b))) := by rw [p_eq rfl rfl, eqD]
@[simp] theorem zwM {a b : Int} : zaj .ne [.int a, .int b] = some (.val (.bl (a != b))) := by rw [p_ne rfl rfl, eqD]; rfl
@[simp] theorem p_lt {a b : Int} : zaj .lt [.int a, .int b] = some (.val (.bl (decide (a < b)))) := rfl
@[simp] theorem p_le {a b : Int} : zaj .le [.int a, .int b] = some (.val (.bl (decide (a ≤ b)))) := rfl
@[simp] theorem p_gt {a b : Int} : zaj .gt [.int a, .int b] = some (.val (.bl (decide (b < a)))) := rfl
@[simp] theorem p_ge {a b : Int} : zaj .ge [.int a, .int b] = some (.val (.bl (decide (b ≤ a)))) := rfl
@[simp] theorem zxI {d : D} : zaj .isN [d] = some (.val (.bl (ze6 d))) := rfl
@[simp] theorem zxx {d : D} : zaj .notN [d] = some (.val (.bl (!ze6 d))) := rfl
@[simp] theorem zxy {l : List D} : zaj .len [.tup l] = some (.val (.int l.length)) := rfl
@[simp] theorem zxz {l : List D} : zaj .len [.lst l] = some (.val (.int l.length)) := rfl
@[simp] theorem zxJ {i : Int} : zaj .abs [.int i] = some (.val (.int (if i < 0 then -i else i))) := rfl
@[simp] theorem zpL {i j : Int} : zaj .min2 [.int i, .int j] = some (.val (.int (if j < i then j else i))) := rfl
@[simp] theorem zpM {i j : Int} : zaj .max2 [.int i, .int j] = some (.val (.int (if j > i then j else i))) := rfl
theorem ztu {n : Int} {r : List Int} : zaj .maxL [.lst ((n :: r).map D.int)] = some (.val (.int (r.foldl max n))) := by
  have : ∀ l : List Int, ints? (l.map D.int) = some l := fun l => by induction l with
    | nil => rfl
    | cons x l ih => simp [ints?, ih]
  simp only [zaj, zod, this, Option.bind_some, zbV]
theorem ztv {n : Int} {r : List Int} : zaj .minL [.lst ((n :: r).map D.int)] = some (.val (.int (r.foldl min n))) := by
  have : ∀ l : List Int, ints? (l.map D.int) = some l := fun l => by induction l with
    | nil => rfl
    | cons x l ih => simp [ints?, ih]
  simp only [zaj, zoe, this, Option.bind_some, zbV]
@[simp] theorem zvc {b : Bool} : zaj .intOf [.bl b] = some (.val (.int (if b then 1 else 0))) := rfl
@[simp] theorem zvd {b : Int} : zaj .intOf [.int b] = some (.val (.int b)) := rfl
@[simp] theorem ztw {l : List D} : zaj .toList [.tup l] = some (.obj true (.lst l)) := rfl
@[simp] theorem ztx {l : List D} : zaj .toList [.lst l] = some (.obj true (.lst l)) := rfl
@[simp] theorem zve {l : List D} : zaj .toTup [.tup l] = some (.val (.tup l)) := rfl
@[simp] theorem zvf {l : List D} : zaj .toTup [.lst l] = some (.val (.tup l)) := rfl
@[simp] theorem zxA {t : Ty} {d : D} : zaj (.inst t) [d] = some (.val (.bl (ze4 t d))) := rfl
theorem zty {l : List D} {i : Int} : zaj .idx [.tup l, .int i] = (atI l i).map .val := rfl
theorem zm8 {l : List D} {i : Int} : zaj .idx [.lst l, .int i] = (atI l i).map .val := rfl
theorem atI_nat {α : Type} {l : List α} {k : Nat} (h : k < l.length) : atI l (k : Int) = some l[k] := by
  unfold atI ixN
  rw [if_pos (by omega), if_pos (by omega)]
  simp [h]
@[simp] theorem zvg {a b : D} : zaj .idx [.tup [a, b], .int 0] = some (.val a) := rfl
@[simp] theorem zvh {a b : D} : zaj .idx [.tup [a, b], .int 1] = some (.val b) := rfl
@[simp] theorem zvi {b : Bool} : ze4 .bool (.bl b) = true := rfl
@[simp] theorem zvj {b : Int} : ze4 .bool (.int b) = false := rfl
@[simp] theorem zvk {b : Int} : ze4 .int (.int b) = true := rfl
@[simp] theorem zvl {l : List D} : ze4 .tuple (.tup l) = true := rfl
@[simp] theorem zvm {l : List D} : ze4 .list (.lst l) = true := rfl
@[simp] theorem ztz : ze6 .non = true := rfl
@[simp] theorem ztA {i : Int} : ze6 (.int i) = false := rfl
@[simp] theorem ztB {l : List D} : ze6 (.tup l) = false := rfl
@[simp] theorem ztC {l : List D} : ze6 (.lst l) = false := rfl
theorem ziu {α : Type} {f : α → D} {test : D → Option Bool} {elt : D → Option SV} {t : α → Bool} {e : α → D} : ∀ {xs : List α}, (∀ x ∈ xs, test (f x) = some (t x)) → (∀ x ∈ xs, t x = true → (elt (f x)).bind toD = some (e x)) →
    zdn test elt (xs.map f) = some ((xs.filter t).map e)
  | [], _, _ => rfl
  | d :: r, h1, h2 => by
    have ih := ziu (xs := r) (fun x hx => h1 x (List.mem_cons_of_mem _ hx)) (fun x hx => h2 x (List.mem_cons_of_mem _ hx))
    rw [List.map_cons, zdn, h1 d List.mem_cons_self]
    simp only [Option.bind_some]
    cases ht : t d with
    | false => simp [ih, ht]
    | true =>
      have h3 := h2 d List.mem_cons_self ht
      rw [jo1] at h3
      obtain ⟨x, e1, e2⟩ := h3
      simp [ih, ht, e1, e2]
theorem zdI {fn : Nat → List D → Option SV} {ρ : Env} {g : Bool} {src : Es} {cond elt : E} {rs : List SV} {α : Type} {f : α → D} {xs : List α} (t : α → Bool) (e : α → D) (h : evEs fn src ρ = some rs) (hi : zaH g rs = some (xs.map f)) (hl : xs.length ≤ line)
    (ht : ∀ x ∈ xs, evT fn cond (some (.val (f x)) :: ρ) = some (t x)) (he : ∀ x ∈ xs, t x = true → (evE fn elt (some (.val (f x)) :: ρ)).bind toD = some (e x)) :
    evE fn (.comp g src cond elt) ρ = some (.obj true (.lst ((xs.filter t).map e))) := by
  rw [zoC, h]
  simp only [Option.bind_some, hi, List.length_map, if_pos hl]
  rw [ziu ht he]; rfl
theorem zbS {fn : Nat → List D → Option SV} {ρ : Env} {g : Bool} {src : Es} {elt : E} {rs : List SV} {α : Type} {f : α → D} {xs : List α} (e : α → D) (h : evEs fn src ρ = some rs) (hi : zaH g rs = some (xs.map f)) (hl : xs.length ≤ line)
    (he : ∀ x ∈ xs, (evE fn elt (some (.val (f x)) :: ρ)).bind toD = some (e x)) :
    evE fn (.comp g src (.bl true) elt) ρ = some (.obj true (.lst (xs.map e))) := by
  have := zdI (fun _ => true) e h hi hl (fun _ _ => zsZ) (fun x hx _ => he x hx)
  have e2 : xs.filter (fun _ => true) = xs := List.filter_eq_self.mpr fun _ _ => rfl
  rwa [e2] at this
theorem zkC {i : Nat} {body : Env → Option (Fl × Env)} (I : List D → Env → Prop) {ds : List D} : ∀ {post pre : List D} {ρ : Env}, ds = pre ++ post → I pre ρ →
    (∀ pre d post ρ, ds = pre ++ d :: post → I pre ρ → ∃ fl ρ', body (ρ.set i (some (.val d))) = some (fl, ρ') ∧ (fl = .nx ∨ fl = .ct) ∧ I (pre ++ [d]) ρ') →
    ∃ ρ', forL i body post ρ = some (.nx, ρ') ∧ I ds ρ'
  | [], pre, ρ, e, h, _ => ⟨ρ, rfl, by rw [e]; simpa using h⟩
  | d :: post, pre, ρ, e, h, st => by
    obtain ⟨fl, ρ1, e1, e2, h1⟩ := st pre d post ρ e h
    obtain ⟨ρ', e3, h3⟩ := zkC I (ds := ds) (post := post) (pre := pre ++ [d]) (ρ := ρ1) (by simp [e]) h1 st
    refine ⟨ρ', ?_, h3⟩
    rw [forL, e1]
    simp only [Option.bind_some]
    rcases e2 with rfl | rfl <;> exact e3
theorem zoJ {i : Nat} {body : Env → Option (Fl × Env)} (I : Nat → Env → Prop) {ds : List D} {ρ : Env} (h0 : I 0 ρ)
    (st : ∀ k ρ (hk : k < ds.length), I k ρ → ∃ fl ρ', body (ρ.set i (some (.val ds[k]))) = some (fl, ρ') ∧ (fl = .nx ∨ fl = .ct) ∧ I (k + 1) ρ') :
    ∃ ρ', forL i body ds ρ = some (.nx, ρ') ∧ I ds.length ρ' := by
  refine zkC (fun pre ρ => I pre.length ρ) (ds := ds) (post := ds) (pre := []) rfl h0 fun pre d post ρ e h => ?_
  subst e
  have hk : pre.length < (pre ++ d :: post).length := by simp
  obtain ⟨fl, ρ', h1, h2, h3⟩ := st pre.length ρ hk h
  refine ⟨fl, ρ', ?_, h2, by simpa using h3⟩
  rw [← h1]; simp
theorem zoK {i : Nat} {body : Env → Option (Fl × Env)} {α : Type} {f : α → D} {xs : List α} (I : Nat → Env → Prop) {ρ : Env} (h0 : I 0 ρ)
    (st : ∀ k ρ (hk : k < xs.length), I k ρ → ∃ fl ρ', body (ρ.set i (some (.val (f xs[k])))) = some (fl, ρ') ∧ (fl = .nx ∨ fl = .ct) ∧ I (k + 1) ρ') :
    ∃ ρ', forL i body (xs.map f) ρ = some (.nx, ρ') ∧ I xs.length ρ' := by
  have := zoJ (i := i) (body := body) I (ds := xs.map f) (ρ := ρ) h0 fun k ρ hk h => by
    obtain ⟨fl, ρ', h1, h2⟩ := st k ρ (by simpa using hk) h
    exact ⟨fl, ρ', by rw [List.getElem_map]; exact h1, h2⟩
  simpa using this
theorem zkD {i : Nat} {body : Env → Option (Fl × Env)} (I : Nat → Env → Prop) {a : Int} {m : Nat} {ρ : Env} (h0 : I 0 ρ)
    (st : ∀ k ρ, k < m → I k ρ → ∃ fl ρ', body (ρ.set i (some (.val (.int (a + (k : Int)))))) = some (fl, ρ') ∧ (fl = .nx ∨ fl = .ct) ∧ I (k + 1) ρ') :
    ∃ ρ', forL i body ((List.range m).map fun (k : Nat) => D.int (a + (k : Int))) ρ = some (.nx, ρ') ∧ I m ρ' := by
  have := zoK (i := i) (body := body) (f := fun (k : Nat) => D.int (a + (k : Int))) (xs := List.range m) I (ρ := ρ) h0 fun k ρ hk h => by
    obtain ⟨fl, ρ', h1, h2⟩ := st k ρ (by simpa using hk) h
    exact ⟨fl, ρ', by rw [List.getElem_range]; exact h1, h2⟩
  simpa using this
theorem zc0 {test : Env → Option Bool} {body : Env → Option (Fl × Env)} (I : Nat → Env → Prop) (J : Env → Prop) : ∀ {m n : Nat} {ρ : Env}, m < n → I m ρ →
    (∀ m ρ, I m ρ → (test ρ = some false ∧ J ρ) ∨ (test ρ = some true ∧ ∃ fl ρ' m', body ρ = some (fl, ρ') ∧ (fl = .nx ∨ fl = .ct) ∧ m' < m ∧ I m' ρ')) →
    ∃ ρ', zcy test body n ρ = some (.nx, ρ') ∧ J ρ'
  | m, 0, ρ, hn, _, _ => by omega
  | m, n + 1, ρ, hn, h, st => by
    rcases st m ρ h with ⟨e, j⟩ | ⟨e, fl, ρ1, m', e1, e2, hm, h1⟩
    · exact ⟨ρ, by rw [zcy, e]; rfl, j⟩
    · obtain ⟨ρ', e3, j⟩ := zc0 I J (m := m') (n := n) (ρ := ρ1) (by omega) h1 st
      refine ⟨ρ', ?_, j⟩
      rw [zcy, e]
      simp only [Option.bind_some, if_true, e1]
      rcases e2 with rfl | rfl <;> exact e3
section
variable {fa : Nat → List D → Option Ans} {fuel : Nat} {ρ : Env}
noncomputable def zoL (k : Env → Option (FlX × Env)) : FlX × Env → Option (FlX × Env)
  | (.fl .nx, ρ) => k ρ
  | x => some x
@[simp] theorem zvn {k : Env → Option (FlX × Env)} : zoL k (.fl .nx, ρ) = k ρ := rfl
@[simp] theorem zvo {k : Env → Option (FlX × Env)} {r : SV} : zoL k (.fl (.rt r), ρ) = some (.fl (.rt r), ρ) := rfl
@[simp] theorem zvp {k : Env → Option (FlX × Env)} {c : Nat} : zoL k (.ex c, ρ) = some (.ex c, ρ) := rfl
@[simp] theorem zvq : exTs fa fuel .nil ρ = some (.fl .nx, ρ) := by rw [exTs]
@[simp] theorem ztD {t : T} {ts : Ts} : exTs fa fuel (.cons t ts) ρ = (exT fa fuel t ρ).bind (zoL (exTs fa fuel ts)) := by
  rw [exTs]
  congr 1
  funext x
  rcases x with ⟨⟨_ | _ | _ | _⟩ | _, _⟩ <;> rfl
@[simp] theorem zxB {s : S} : exT fa fuel (.pl s) ρ = (exS fa fuel s ρ).map fun x => (.fl x.1, x.2) := by rw [exT]
@[simp] theorem ztE {c : Nat} : exT fa fuel (.raise c) ρ = some (.ex c, ρ) := by rw [exT]
@[simp] theorem ztF : exT fa fuel .stuck ρ = none := by rw [exT]
@[simp] theorem zwN {c : E} {a b : Ts} : exT fa fuel (.ifs c a b) ρ = (evT (prj fa) c ρ).bind fun k => if k then exTs fa fuel a ρ else exTs fa fuel b ρ := by rw [exT]
noncomputable def zm9 (ρ : Env) : Ans → Option (FlX × Env)
  | .ok _ [] => some (.fl .nx, ρ)
  | .ex c => some (.ex c, ρ)
  | _ => none
@[simp] theorem ztG {r : SV} : zm9 ρ (.ok r []) = some (.fl .nx, ρ) := rfl
@[simp] theorem ztH {c : Nat} : zm9 ρ (.ex c) = some (.ex c, ρ) := rfl
@[simp] theorem ztI {i : Nat} {es : Es} : exT fa fuel (.callX i es) ρ = (ansX fa i es ρ).bind (zm9 ρ) := by rw [exT]; rfl
noncomputable def zq1 (ρ : Env) : Ans → Option (FlX × Env)
  | .ok r [] => if r.lent then none else some (.fl (.rt r), ρ)
  | .ex c => some (.ex c, ρ)
  | _ => none
@[simp] theorem zvr {r : SV} : zq1 ρ (.ok r []) = if r.lent then none else some (.fl (.rt r), ρ) := rfl
@[simp] theorem zvs {c : Nat} : zq1 ρ (.ex c) = some (.ex c, ρ) := rfl
@[simp] theorem zvt {i : Nat} {es : Es} : exT fa fuel (.retX i es) ρ = (ansX fa i es ρ).bind (zq1 ρ) := by rw [exT]; rfl
noncomputable def ztJ (k : Nat) (ρ : Env) : Ans → Option (FlX × Env)
  | .ok r [] => if r.lent || !free ρ k then none else some (.fl .nx, ρ.set k (some r))
  | .ex c => some (.ex c, ρ)
  | _ => none
@[simp] theorem zvu {k c : Nat} : ztJ k ρ (.ex c) = some (.ex c, ρ) := rfl
@[simp] theorem zvv {k i : Nat} {es : Es} : exT fa fuel (.asgX k i es) ρ = (ansX fa i es ρ).bind (ztJ k ρ) := by rw [exT]; rfl
noncomputable def ifXR (neg : Bool) (a b : Option (FlX × Env)) (ρ : Env) : Ans → Option (FlX × Env)
  | .ok (.val (.bl k)) [] => if k != neg then a else b
  | .ex c => some (.ex c, ρ)
  | _ => none
@[simp] theorem zwO {neg : Bool} {a b : Option (FlX × Env)} {c : Nat} : ifXR neg a b ρ (.ex c) = some (.ex c, ρ) := rfl
@[simp] theorem zwP {neg : Bool} {i : Nat} {es : Es} {a b : Ts} : exT fa fuel (.ifX neg i es a b) ρ = (ansX fa i es ρ).bind (ifXR neg (exTs fa fuel a ρ) (exTs fa fuel b ρ) ρ) := by rw [exT]; rfl
noncomputable def zq2 (cs : List Nat) (h : Hd) : FlX × Env → Option (FlX × Env)
  | (.ex c, ρ) => if cs.contains c then hdX c ρ h else none
  | x => some x
@[simp] theorem zvw {cs : List Nat} {h : Hd} {f : Fl} : zq2 cs h (.fl f, ρ) = some (.fl f, ρ) := rfl
@[simp] theorem zvx {cs : List Nat} {h : Hd} {c : Nat} : zq2 cs h (.ex c, ρ) = if cs.contains c then hdX c ρ h else none := rfl
@[simp] theorem zvy {b : Ts} {k : Nat} {cs : List Nat} {h : Hd} : exT fa fuel (.tryX b k cs h) ρ = (exTs fa fuel b ρ).bind (zq2 cs h) := by
  rw [exT]
  congr 1
  funext x
  rcases x with ⟨_ | _, _⟩ <;> rfl
@[simp] theorem zwQ {i : Nat} {es : Es} : ansX fa i es ρ = (evEs (prj fa) es ρ).bind fun rs => if rs.any SV.lent then none else fa i (rs.map seeD) := rfl
@[simp] theorem zwR {r : SV} : endX (some (.fl (.rt r), ρ)) = some (.ok r []) := rfl
@[simp] theorem zwS : endX (some (.fl .nx, ρ)) = some (.ok (.val .non) []) := rfl
@[simp] theorem zwT {c : Nat} : endX (some (.ex c, ρ)) = some (.ex c) := rfl
end
end L2.LW
namespace LK
open L2.LW
noncomputable def ir0 : Ss := (.cons (.ifs (.or (.prim (.inst .bool) (.cons (.var 0) .nil)) (.not (.prim (.inst .int) (.cons (.var 0) .nil)))) (.cons (.ret (.bl false))
    .nil) .nil)
    (.cons (.ret (.chain .le .le (.var 1) (.var 0) (.var 2)))
    .nil))
noncomputable def ir1 : Ss := (.cons (.ret (.and (.prim (.inst .tuple) (.cons (.var 0) .nil)) (.prim .eq (.cons (.prim .len (.cons (.var 0) .nil)) (.cons (.int 2) .nil)))))
    .nil)
noncomputable def ir2 : Ss := (.cons (.ret (.and (.call 1 (.cons (.var 0) .nil)) (.and (.call 0 (.cons (.prim .idx (.cons (.var 0) (.cons (.int 0) .nil))) (.cons (.int 0) (.cons (.int 7) .nil)))) (.call 0 (.cons (.prim .idx (.cons (.var 0) (.cons (.int 1) .nil))) (.cons (.int 0) (.cons (.int 7) .nil)))))))
    .nil)
noncomputable def ir3 : Ss := (.cons (.ret (.and (.call 1 (.cons (.var 0) .nil)) (.and (.call 0 (.cons (.prim .idx (.cons (.var 0) (.cons (.int 1) .nil))) (.cons (.int 1) (.cons (.int 4) .nil)))) (.call 0 (.cons (.prim .idx (.cons (.var 0) (.cons (.int 0) .nil))) (.cons (.int 0) (.cons (.prim .idx (.cons (.var 0) (.cons (.int 1) .nil))) .nil)))))))
    .nil)
noncomputable def ir4 : Ss := (.cons (.ret (.prim .all (.cons (.comp true (.cons (.int 1) (.cons (.prim .len (.cons (.var 0) .nil)) .nil)) (.bl true) (.prim .lt (.cons (.prim .idx (.cons (.var 1) (.cons (.prim .sub (.cons (.var 0) (.cons (.int 1) .nil))) .nil))) (.cons (.prim .idx (.cons (.var 1) (.cons (.var 0) .nil))) .nil)))) .nil)))
    .nil)
noncomputable def ir5 : Ss := (.cons (.ifs (.or (.not (.prim (.inst .tuple) (.cons (.var 0) .nil))) (.not (.chain .le .le (.int 1) (.prim .len (.cons (.var 0) .nil)) (.int 24)))) (.cons (.ret (.bl false))
    .nil) .nil)
    (.cons (.ret (.and (.prim .all (.cons (.comp false (.cons (.var 0) .nil) (.bl true) (.call 2 (.cons (.var 0) .nil))) .nil)) (.call 4 (.cons (.var 0) .nil))))
    .nil))
noncomputable def ir6 : Ss := (.cons (.ifs (.not (.call 5 (.cons (.var 0) .nil))) (.cons .stop
    .nil) .nil)
    (.cons (.retV 0)
    .nil))
noncomputable def ir7 : Ss := (.cons (.ifs (.not (.call 3 (.cons (.var 0) .nil))) (.cons .stop
    .nil) .nil)
    (.cons (.retV 0)
    .nil))
noncomputable def ir8 : Ss := (.cons (.ifs (.or (.not (.call 2 (.cons (.var 1) .nil))) (.prim .nin (.cons (.var 1) (.cons (.var 0) .nil)))) (.cons .stop
    .nil) .nil)
    (.cons (.retV 1)
    .nil))
noncomputable def ir9 : Ss := (.cons (.ret (.tup (.cons (.prim .min2 (.cons (.prim .abs (.cons (.var 0) .nil)) (.cons (.prim .abs (.cons (.var 1) .nil)) .nil))) (.cons (.prim .max2 (.cons (.prim .abs (.cons (.var 0) .nil)) (.cons (.prim .abs (.cons (.var 1) .nil)) .nil))) .nil))))
    .nil)
noncomputable def ir10 : Ss := (.cons (.ret (.prim .eq (.cons (.call 9 (.cons (.prim .sub (.cons (.prim .idx (.cons (.var 2) (.cons (.int 0) .nil))) (.cons (.prim .idx (.cons (.var 1) (.cons (.int 0) .nil))) .nil))) (.cons (.prim .sub (.cons (.prim .idx (.cons (.var 2) (.cons (.int 1) .nil))) (.cons (.prim .idx (.cons (.var 1) (.cons (.int 1) .nil))) .nil))) .nil))) (.cons (.var 0) .nil))))
    .nil)
noncomputable def ir11 : Ss := (.cons (.ret (.comp false (.cons (.var 0) .nil) (.call 10 (.cons (.var 2) (.cons (.var 3) (.cons (.var 0) .nil)))) (.var 0)))
    .nil)
noncomputable def ir13 : Ss := (.cons (.ifs (.prim .lt (.cons (.var 1) (.cons (.prim .len (.cons (.var 0) .nil)) .nil))) (.cons (.ret (.prim .idx (.cons (.var 0) (.cons (.var 1) .nil))))
    .nil) .nil)
    (.cons (.ret (.int 0))
    .nil))
noncomputable def ir14 : Ss := (.cons (.ret (.prim .mod (.cons (.prim .mod (.cons (.prim .mul (.cons (.var 0) (.cons (.int 48271) .nil))) (.cons (.var 1) .nil))) (.cons (.var 2) .nil))))
    .nil)
noncomputable def zkE : Ss := (.cons (.asg 12 (.prim .add (.cons (.prim .add (.cons (.call 13 (.cons (.var 0) (.cons (.prim .add (.cons (.prim .add (.cons (.var 1) (.cons (.int 2) .nil))) (.cons (.prim .mod (.cons (.prim .add (.cons (.var 10) (.cons (.prim .mul (.cons (.int 2) (.cons (.var 11) .nil))) .nil))) (.cons (.int 7) .nil))) .nil))) .nil))) (.cons (.prim .mul (.cons (.prim .mul (.cons (.int 31) (.cons (.var 10) .nil))) (.cons (.var 10) .nil))) .nil))) (.cons (.prim .mul (.cons (.prim .mul (.cons (.int 57) (.cons (.var 11) .nil))) (.cons (.var 11) .nil))) .nil))))
    (.cons (.ifs (.or (.prim .eq (.cons (.var 8) (.cons (.int 0) .nil))) (.prim .gt (.cons (.call 14 (.cons (.var 12) (.cons (.int 9931) (.cons (.prim .idx (.cons (.lst (.cons (.int 2) (.cons (.int 4) (.cons (.int 7) .nil)))) (.cons (.prim .sub (.cons (.var 8) (.cons (.int 1) .nil))) .nil))) .nil)))) (.cons (.int 0) .nil)))) (.cons (.app 9 (.tup (.cons (.prim .add (.cons (.var 6) (.cons (.var 10) .nil))) (.cons (.prim .add (.cons (.var 7) (.cons (.var 11) .nil))) .nil))))
    .nil) .nil)
    .nil))
noncomputable def ziv : Ss := (.cons (.for_ 11 true (.cons (.var 5) .nil) zkE)
    .nil)
noncomputable def ir15 : Ss := (.cons (.asg 3 (.call 13 (.cons (.var 0) (.cons (.var 1) .nil))))
    (.cons (.asg 4 (.prim .add (.cons (.int 1) (.cons (.call 14 (.cons (.var 3) (.cons (.int 9973) (.cons (.int 5) .nil)))) .nil))))
    (.cons (.asg 5 (.prim .add (.cons (.int 1) (.cons (.call 14 (.cons (.var 3) (.cons (.int 9967) (.cons (.int 6) .nil)))) .nil))))
    (.cons (.asg 6 (.call 14 (.cons (.call 13 (.cons (.var 0) (.cons (.prim .add (.cons (.var 1) (.cons (.int 1) .nil))) .nil))) (.cons (.int 9949) (.cons (.prim .sub (.cons (.int 9) (.cons (.var 4) .nil))) .nil)))))
    (.cons (.asg 7 (.call 14 (.cons (.call 13 (.cons (.var 0) (.cons (.prim .add (.cons (.var 1) (.cons (.int 1) .nil))) .nil))) (.cons (.int 9941) (.cons (.prim .sub (.cons (.int 9) (.cons (.var 5) .nil))) .nil)))))
    (.cons (.asg 8 (.call 14 (.cons (.prim .add (.cons (.var 3) (.cons (.int 3) .nil))) (.cons (.int 9907) (.cons (.int 4) .nil)))))
    (.cons (.asg 9 (.lst .nil))
    (.cons (.for_ 10 true (.cons (.var 4) .nil) ziv)
    (.cons (.ifs (.not (.var 9)) (.cons (.asg 9 (.lst (.cons (.tup (.cons (.var 6) (.cons (.var 7) .nil))) .nil)))
    .nil) .nil)
    (.cons (.ret (.prim .toTup (.cons (.prim .cutTo (.cons (.var 9) (.cons (.var 2) .nil))) .nil)))
    .nil))))))))))
noncomputable def ir16 : Ss := (.cons (.asg 1 (.lst (.cons (.tup (.cons (.int 1) (.cons (.int 2) .nil))) (.cons (.tup (.cons (.int 0) (.cons (.int 1) .nil))) (.cons (.tup (.cons (.int 1) (.cons (.int 1) .nil))) (.cons (.tup (.cons (.int 1) (.cons (.int 2) .nil))) (.cons (.tup (.cons (.int 0) (.cons (.int 2) .nil))) (.cons (.tup (.cons (.int 1) (.cons (.int 3) .nil))) (.cons (.tup (.cons (.int 2) (.cons (.int 3) .nil))) (.cons (.tup (.cons (.int 0) (.cons (.int 1) .nil))) (.cons (.tup (.cons (.int 1) (.cons (.int 2) .nil))) (.cons (.tup (.cons (.int 2) (.cons (.int 2) .nil))) (.cons (.tup (.cons (.int 0) (.cons (.int 3) .nil))) (.cons (.tup (.cons (.int 1) (.cons (.int 4) .nil))) (.cons (.tup (.cons (.int 2) (.cons (.int 4) .nil))) .nil)))))))))))))))
    (.cons (.ret (.prim .idx (.cons (.prim .add (.cons (.var 1) (.cons (.lst (.cons (.tup (.cons (.int 3) (.cons (.int 3) .nil))) (.cons (.tup (.cons (.int 3) (.cons (.int 4) .nil))) (.cons (.tup (.cons (.int 0) (.cons (.int 4) .nil))) (.cons (.tup (.cons (.int 4) (.cons (.int 4) .nil))) (.cons (.tup (.cons (.int 1) (.cons (.int 2) .nil))) (.cons (.tup (.cons (.int 1) (.cons (.int 1) .nil))) .nil))))))) .nil))) (.cons (.prim .mod (.cons (.var 0) (.cons (.int 19) .nil))) .nil))))
    .nil))
noncomputable def zgG : Ss := (.cons (.ifs (.prim .nin (.cons (.var 7) (.cons (.var 3) .nil))) (.cons (.dset 3 (.var 7) (.var 6))
    (.cons (.app 5 (.var 7))
    .nil)) .nil)
    .nil)
noncomputable def zkF : Ss := (.cons (.for_ 7 false (.cons (.call 11 (.cons (.var 0) (.cons (.var 1) (.cons (.var 6) .nil)))) .nil) zgG)
    .nil)
noncomputable def zkG : Ss := (.cons (.asg 5 (.lst .nil))
    (.cons (.forV 6 4 zkF)
    (.cons (.mov 4 5)
    .nil)))
noncomputable def ir20 : Ss := (.cons (.asg 3 (.done true (.var 2) .non))
    (.cons (.asg 4 (.lst (.cons (.var 2) .nil)))
    (.cons (.while_ (.prim .gt (.cons (.prim .len (.cons (.var 4) .nil)) (.cons (.int 0) .nil))) zkG)
    (.cons (.retV 3)
    .nil))))
noncomputable def ir21 : Ss := (.cons (.ret (.prim .maxL (.cons (.comp true (.cons (.int 1) (.cons (.prim .add (.cons (.prim .idx (.cons (.var 0) (.cons (.int 1) .nil))) (.cons (.int 1) .nil))) .nil)) (.and (.prim .eq (.cons (.prim .mod (.cons (.prim .idx (.cons (.var 1) (.cons (.int 0) .nil))) (.cons (.var 0) .nil))) (.cons (.int 0) .nil))) (.prim .eq (.cons (.prim .mod (.cons (.prim .idx (.cons (.var 1) (.cons (.int 1) .nil))) (.cons (.var 0) .nil))) (.cons (.int 0) .nil)))) (.var 0)) .nil)))
    .nil)
noncomputable def ir22 : Ss := (.cons (.asg 1 (.call 21 (.cons (.var 0) .nil)))
    (.cons (.ret (.prim .eq (.cons (.prim .mod (.cons (.prim .add (.cons (.prim .fdiv (.cons (.prim .idx (.cons (.var 0) (.cons (.int 0) .nil))) (.cons (.var 1) .nil))) (.cons (.prim .fdiv (.cons (.prim .idx (.cons (.var 0) (.cons (.int 1) .nil))) (.cons (.var 1) .nil))) .nil))) (.cons (.int 2) .nil))) (.cons (.int 1) .nil))))
    .nil))
noncomputable def zna : Ss := (.cons (.app 5 (.prim .idx (.cons (.var 4) (.cons (.prim .idx (.cons (.var 5) (.cons (.prim .neg (.cons (.int 1) .nil)) .nil))) .nil))))
    .nil)
noncomputable def ir26 : Ss := (.cons (.expr (.call 6 (.cons (.var 0) .nil)))
    (.cons (.expr (.call 7 (.cons (.var 1) .nil)))
    (.cons (.expr (.call 8 (.cons (.var 0) (.cons (.var 2) .nil))))
    (.cons (.expr (.call 8 (.cons (.var 0) (.cons (.var 3) .nil))))
    (.cons (.asg 4 (.call 20 (.cons (.var 0) (.cons (.var 1) (.cons (.var 3) .nil)))))
    (.cons (.ifs (.prim .nin (.cons (.var 2) (.cons (.var 4) .nil))) (.cons (.ret .non)
    .nil) .nil)
    (.cons (.asg 5 (.lst (.cons (.var 2) .nil)))
    (.cons (.while_ (.prim .notN (.cons (.prim .idx (.cons (.var 4) (.cons (.prim .idx (.cons (.var 5) (.cons (.prim .neg (.cons (.int 1) .nil)) .nil))) .nil))) .nil)) zna)
    (.cons (.retV 5)
    .nil)))))))))
noncomputable def ir27 : Ss := (.cons (.asg 4 (.call 26 (.cons (.var 0) (.cons (.var 1) (.cons (.var 2) (.cons (.var 3) .nil))))))
    (.cons (.ret (.ite (.prim .isN (.cons (.var 4) .nil)) .non (.prim .sub (.cons (.prim .len (.cons (.var 4) .nil)) (.cons (.int 1) .nil)))))
    .nil))
noncomputable def ziw : Ss := (.cons (.ifs (.prim .nin (.cons (.var 4) (.cons (.var 3) .nil))) (.cons (.asg 5 (.call 20 (.cons (.var 0) (.cons (.var 1) (.cons (.var 4) .nil)))))
    (.cons (.dupd 3 5)
    (.cons (.app 2 (.prim .skeys (.cons (.var 5) .nil)))
    .nil))) .nil)
    .nil)
noncomputable def ir30 : Ss := (.cons (.asg 2 (.lst .nil))
    (.cons (.asg 3 (.dnew true))
    (.cons (.forV 4 0 ziw)
    (.cons (.retV 2)
    .nil))))
noncomputable def ir31 : Ss := (.cons (.expr (.call 6 (.cons (.var 0) .nil)))
    (.cons (.expr (.call 7 (.cons (.var 1) .nil)))
    (.cons (.ret (.call 30 (.cons (.var 0) (.cons (.var 1) .nil))))
    .nil)))
noncomputable def ir53 : Ss := (.cons (.ifs (.not (.call 0 (.cons (.var 0) (.cons (.prim .neg (.cons (.int 12) .nil)) (.cons (.int 12) .nil))))) (.cons .stop
    .nil) .nil)
    .nil)
noncomputable def ir54 : Ss := (.cons (.expr (.call 7 (.cons (.var 0) .nil)))
    (.cons (.expr (.call 53 (.cons (.var 1) .nil)))
    (.cons (.expr (.call 53 (.cons (.var 2) .nil)))
    (.cons (.asg 3 (.call 21 (.cons (.var 0) .nil)))
    (.cons (.ifs (.or (.prim .ne (.cons (.prim .mod (.cons (.var 1) (.cons (.var 3) .nil))) (.cons (.int 0) .nil))) (.prim .ne (.cons (.prim .mod (.cons (.var 2) (.cons (.var 3) .nil))) (.cons (.int 0) .nil)))) (.cons (.ret (.bl false))
    .nil) .nil)
    (.cons (.ret (.or (.call 22 (.cons (.var 0) .nil)) (.prim .eq (.cons (.prim .mod (.cons (.prim .add (.cons (.prim .fdiv (.cons (.var 1) (.cons (.var 3) .nil))) (.cons (.prim .fdiv (.cons (.var 2) (.cons (.var 3) .nil))) .nil))) (.cons (.int 2) .nil))) (.cons (.int 0) .nil)))))
    .nil))))))
noncomputable def zpN : Ss := (.cons (.app 2 (.call 9 (.cons (.prim .add (.cons (.prim .idx (.cons (.var 1) (.cons (.int 0) .nil))) (.cons (.var 4) .nil))) (.cons (.prim .add (.cons (.prim .idx (.cons (.var 1) (.cons (.int 1) .nil))) (.cons (.var 5) .nil))) .nil))))
    .nil)
noncomputable def zpO : Ss := (.cons (.for_ 5 false (.cons (.tup (.cons (.prim .neg (.cons (.prim .idx (.cons (.var 3) (.cons (.int 1) .nil))) .nil)) (.cons (.prim .idx (.cons (.var 3) (.cons (.int 1) .nil))) .nil))) .nil) zpN)
    .nil)
noncomputable def zpP : Ss := (.cons (.for_ 4 false (.cons (.tup (.cons (.prim .neg (.cons (.prim .idx (.cons (.var 3) (.cons (.int 0) .nil))) .nil)) (.cons (.prim .idx (.cons (.var 3) (.cons (.int 0) .nil))) .nil))) .nil) zpO)
    .nil)
noncomputable def ir55 : Ss := (.cons (.asg 2 (.lst .nil))
    (.cons (.for_ 3 false (.cons (.tup (.cons (.var 0) (.cons (.tup (.cons (.prim .idx (.cons (.var 0) (.cons (.int 1) .nil))) (.cons (.prim .idx (.cons (.var 0) (.cons (.int 0) .nil))) .nil))) .nil))) .nil) zpP)
    (.cons (.retV 2)
    .nil)))
noncomputable def zix : Ss := (.cons (.ifs (.prim .nin (.cons (.var 5) (.cons (.var 2) .nil))) (.cons (.dset 2 (.var 5) (.bl true))
    (.cons (.app 3 (.var 5))
    .nil)) .nil)
    .nil)
noncomputable def zkH : Ss := (.cons (.for_ 5 false (.cons (.call 55 (.cons (.var 0) (.cons (.var 4) .nil))) .nil) zix)
    .nil)
noncomputable def ir56 : Ss := (.cons (.asg 3 (.lst .nil))
    (.cons (.forV 4 1 zkH)
    (.cons (.retV 3)
    .nil)))
noncomputable def zkI : Ss := (.cons (.asgM 4 (.call 56 (.e (.var 0) (.e (.var 4) (.s 5 .nil)))))
    (.cons (.asg 6 (.prim .add (.cons (.var 6) (.cons (.int 1) .nil))))
    .nil))
noncomputable def ir57 : Ss := (.cons (.ifs (.not (.call 54 (.cons (.var 0) (.cons (.var 1) (.cons (.var 2) .nil))))) (.cons (.ret .non)
    .nil) .nil)
    (.cons (.asg 3 (.call 9 (.cons (.var 1) (.cons (.var 2) .nil))))
    (.cons (.asg 4 (.lst (.cons (.tup (.cons (.int 0) (.cons (.int 0) .nil))) .nil)))
    (.cons (.asg 5 (.done true (.tup (.cons (.int 0) (.cons (.int 0) .nil))) (.bl true)))
    (.cons (.asg 6 (.int 0))
    (.cons (.while_ (.prim .nin (.cons (.var 3) (.cons (.var 5) .nil))) zkI)
    (.cons (.retV 6)
    .nil)))))))
noncomputable def ir58 : Ss := (.cons (.asg 1 (.call 15 (.cons (.var 0) (.cons (.int 4) (.cons (.int 24) .nil)))))
    (.cons (.asg 2 (.call 16 (.cons (.call 13 (.cons (.var 0) (.cons (.int 0) .nil))) .nil)))
    (.cons (.unp3 3 4 5 (.comp false (.cons (.tup (.cons (.int 1) (.cons (.int 2) (.cons (.int 3) .nil)))) .nil) (.bl true) (.prim .idx (.cons (.var 2) (.cons (.prim .mod (.cons (.call 13 (.cons (.var 1) (.cons (.var 0) .nil))) (.cons (.prim .len (.cons (.var 2) .nil)) .nil))) .nil)))))
    (.cons (.asg 6 (.call 27 (.cons (.var 1) (.cons (.var 2) (.cons (.var 3) (.cons (.var 5) .nil))))))
    (.cons (.asg 7 (.call 31 (.cons (.var 1) (.cons (.var 2) .nil))))
    (.cons (.ifs (.prim .ne (.cons (.prim .isN (.cons (.var 6) .nil)) (.cons (.prim .eq (.cons (.comp false (.cons (.var 7) .nil) (.and (.prim .inn (.cons (.var 4) (.cons (.var 0) .nil))) (.prim .inn (.cons (.var 6) (.cons (.var 0) .nil)))) (.var 0)) (.cons (.lst .nil) .nil))) .nil))) (.cons (.ret (.bl false))
    .nil) .nil)
    (.cons (.asg 8 (.call 27 (.cons (.var 1) (.cons (.var 2) (.cons (.var 3) (.cons (.var 4) .nil))))))
    (.cons (.asg 9 (.call 27 (.cons (.var 1) (.cons (.var 2) (.cons (.var 4) (.cons (.var 5) .nil))))))
    (.cons (.ifs (.and (.prim .notN (.cons (.var 8) .nil)) (.and (.prim .notN (.cons (.var 9) .nil)) (.or (.prim .isN (.cons (.var 6) .nil)) (.prim .gt (.cons (.var 6) (.cons (.prim .add (.cons (.var 8) (.cons (.var 9) .nil))) .nil)))))) (.cons (.ret (.bl false))
    .nil) .nil)
    (.cons (.asg 10 (.prim .toTup (.cons (.prim .sorted (.cons (.comp false (.cons (.var 1) .nil) (.bl true) (.tup (.cons (.prim .idx (.cons (.var 0) (.cons (.int 1) .nil))) (.cons (.prim .idx (.cons (.var 0) (.cons (.int 0) .nil))) .nil)))) .nil)) .nil)))
    (.cons (.ifs (.prim .ne (.cons (.call 27 (.cons (.var 10) (.cons (.var 2) (.cons (.tup (.cons (.prim .idx (.cons (.var 3) (.cons (.int 1) .nil))) (.cons (.prim .idx (.cons (.var 3) (.cons (.int 0) .nil))) .nil))) (.cons (.tup (.cons (.prim .idx (.cons (.var 5) (.cons (.int 1) .nil))) (.cons (.prim .idx (.cons (.var 5) (.cons (.int 0) .nil))) .nil))) .nil))))) (.cons (.var 6) .nil))) (.cons (.ret (.bl false))
    .nil) .nil)
    (.cons (.asg 11 (.prim .minL (.cons (.comp false (.cons (.var 1) .nil) (.bl true) (.prim .idx (.cons (.var 0) (.cons (.int 0) .nil)))) .nil)))
    (.cons (.asg 12 (.prim .toTup (.cons (.comp false (.cons (.var 1) .nil) (.bl true) (.tup (.cons (.prim .sub (.cons (.prim .idx (.cons (.var 0) (.cons (.int 0) .nil))) (.cons (.var 12) .nil))) (.cons (.prim .idx (.cons (.var 0) (.cons (.int 1) .nil))) .nil)))) .nil)))
    (.cons (.ifs (.prim .ne (.cons (.call 27 (.cons (.var 12) (.cons (.var 2) (.cons (.tup (.cons (.prim .sub (.cons (.prim .idx (.cons (.var 3) (.cons (.int 0) .nil))) (.cons (.var 11) .nil))) (.cons (.prim .idx (.cons (.var 3) (.cons (.int 1) .nil))) .nil))) (.cons (.tup (.cons (.prim .sub (.cons (.prim .idx (.cons (.var 5) (.cons (.int 0) .nil))) (.cons (.var 11) .nil))) (.cons (.prim .idx (.cons (.var 5) (.cons (.int 1) .nil))) .nil))) .nil))))) (.cons (.var 6) .nil))) (.cons (.ret (.bl false))
    .nil) .nil)
    (.cons (.asg 13 (.call 57 (.cons (.var 2) (.cons (.prim .sub (.cons (.prim .idx (.cons (.var 5) (.cons (.int 0) .nil))) (.cons (.prim .idx (.cons (.var 3) (.cons (.int 0) .nil))) .nil))) (.cons (.prim .sub (.cons (.prim .idx (.cons (.var 5) (.cons (.int 1) .nil))) (.cons (.prim .idx (.cons (.var 3) (.cons (.int 1) .nil))) .nil))) .nil)))))
    (.cons (.ret (.or (.prim .isN (.cons (.var 6) .nil)) (.and (.prim .notN (.cons (.var 13) .nil)) (.prim .le (.cons (.var 13) (.cons (.var 6) .nil))))))
    .nil))))))))))))))))
noncomputable def U : Nat → Option Fn
  | 0 => some ⟨3, 3, ir0, [], none⟩
  | 1 => some ⟨1, 1, ir1, [], none⟩
  | 2 => some ⟨1, 1, ir2, [], none⟩
  | 3 => some ⟨1, 1, ir3, [], none⟩
  | 4 => some ⟨1, 1, ir4, [], none⟩
  | 5 => some ⟨1, 1, ir5, [], none⟩
  | 6 => some ⟨1, 1, ir6, [], none⟩
  | 7 => some ⟨1, 1, ir7, [], none⟩
  | 8 => some ⟨2, 2, ir8, [], none⟩
  | 9 => some ⟨2, 2, ir9, [], none⟩
  | 10 => some ⟨3, 3, ir10, [], none⟩
  | 11 => some ⟨3, 3, ir11, [], none⟩
  | 13 => some ⟨2, 2, ir13, [], none⟩
  | 14 => some ⟨3, 3, ir14, [], none⟩
  | 15 => some ⟨3, 13, ir15, [], none⟩
  | 16 => some ⟨1, 2, ir16, [], none⟩
  | 20 => some ⟨3, 8, ir20, [], none⟩
  | 21 => some ⟨1, 1, ir21, [], none⟩
  | 22 => some ⟨1, 2, ir22, [], none⟩
  | 26 => some ⟨4, 6, ir26, [], none⟩
  | 27 => some ⟨4, 5, ir27, [], none⟩
  | 30 => some ⟨2, 6, ir30, [], none⟩
  | 31 => some ⟨2, 2, ir31, [], none⟩
  | 53 => some ⟨1, 1, ir53, [], none⟩
  | 54 => some ⟨3, 4, ir54, [], none⟩
  | 55 => some ⟨2, 6, ir55, [], none⟩
  | 56 => some ⟨3, 6, ir56, [2], none⟩
  | 57 => some ⟨3, 7, ir57, [], none⟩
  | 58 => some ⟨1, 14, ir58, [], none⟩
  | _ => none
theorem U0 : U 0 = some ⟨3, 3, ir0, [], none⟩ := rfl
theorem U1 : U 1 = some ⟨1, 1, ir1, [], none⟩ := rfl
theorem U2 : U 2 = some ⟨1, 1, ir2, [], none⟩ := rfl
theorem U3 : U 3 = some ⟨1, 1, ir3, [], none⟩ := rfl
theorem U4 : U 4 = some ⟨1, 1, ir4, [], none⟩ := rfl
theorem U5 : U 5 = some ⟨1, 1, ir5, [], none⟩ := rfl
theorem U6 : U 6 = some ⟨1, 1, ir6, [], none⟩ := rfl
theorem U7 : U 7 = some ⟨1, 1, ir7, [], none⟩ := rfl
theorem U8 : U 8 = some ⟨2, 2, ir8, [], none⟩ := rfl
theorem U9 : U 9 = some ⟨2, 2, ir9, [], none⟩ := rfl
theorem U10 : U 10 = some ⟨3, 3, ir10, [], none⟩ := rfl
theorem U11 : U 11 = some ⟨3, 3, ir11, [], none⟩ := rfl
theorem U13 : U 13 = some ⟨2, 2, ir13, [], none⟩ := rfl
theorem U14 : U 14 = some ⟨3, 3, ir14, [], none⟩ := rfl
theorem U15 : U 15 = some ⟨3, 13, ir15, [], none⟩ := rfl
theorem U16 : U 16 = some ⟨1, 2, ir16, [], none⟩ := rfl
theorem U20 : U 20 = some ⟨3, 8, ir20, [], none⟩ := rfl
theorem U21 : U 21 = some ⟨1, 1, ir21, [], none⟩ := rfl
theorem U22 : U 22 = some ⟨1, 2, ir22, [], none⟩ := rfl
theorem U26 : U 26 = some ⟨4, 6, ir26, [], none⟩ := rfl
theorem U27 : U 27 = some ⟨4, 5, ir27, [], none⟩ := rfl
theorem U30 : U 30 = some ⟨2, 6, ir30, [], none⟩ := rfl
theorem U31 : U 31 = some ⟨2, 2, ir31, [], none⟩ := rfl
theorem U53 : U 53 = some ⟨1, 1, ir53, [], none⟩ := rfl
theorem U54 : U 54 = some ⟨3, 4, ir54, [], none⟩ := rfl
theorem U55 : U 55 = some ⟨2, 6, ir55, [], none⟩ := rfl
theorem U56 : U 56 = some ⟨3, 6, ir56, [2], none⟩ := rfl
theorem U57 : U 57 = some ⟨3, 7, ir57, [], none⟩ := rfl
theorem U58 : U 58 = some ⟨1, 14, ir58, [], none⟩ := rfl
end LK
set_option linter.all false
namespace LK
open L2.LW
noncomputable def zat : Nat := 100000
noncomputable abbrev call (n i : Nat) (ds : List D) : Option SV := zaX U zat n i ds
theorem zau {n i : Nat} {F : Fn} {ds : List D} (h : U i = some F) (hl : ds.length = F.np) (hio : F.io = [] := by rfl) (hx : F.xb = none := by rfl) :
    zaX U zat (n + 1) i ds = zga (exSs (zas U zat n) zat F.body (ds.map (fun d => some (.val d)) ++ List.replicate (F.nl - F.np) none)) := zlu h hl hio hx
noncomputable abbrev Cell := Int × Int
noncomputable def cD (c : Cell) : D := .tup [.int c.1, .int c.2]
noncomputable def fD (f : List Cell) : D := .tup (f.map cD)
noncomputable def lD (f : List Cell) : D := .lst (f.map cD)
@[simp] theorem zvz {c : Cell} : plain (cD c) = true := by simp [cD]
@[simp] theorem zes : ∀ {l : List Cell}, zbq (l.map cD) = true
  | [] => by simp
  | c :: r => by simp [zes (l := r)]
@[simp] theorem zvA {f : List Cell} : plain (fD f) = true := by simp [fD]
@[simp] theorem zjM {c : Cell} {n : Nat} : shal (n + 1) (cD c) = true := by simp [cD, shal]
@[simp] theorem zgH {n : Nat} {l : List Cell} : (l.map cD).all (shal (n + 1)) = true := by
  rw [List.all_map, List.all_eq_true]; intro x _; exact zjM
@[simp] theorem zkJ {a b : Cell} : eqD (cD a) (cD b) = decide (a = b) := by
  rw [Bool.eq_iff_iff]
  obtain ⟨a1, a2⟩ := a; obtain ⟨b1, b2⟩ := b
  simp [cD, eqD, eqDs]
@[simp] theorem zlw : ∀ {a b : List Cell}, eqDs (a.map cD) (b.map cD) = decide (a = b)
  | [], [] => by simp [eqDs]
  | [], _ :: _ => by simp [eqDs]
  | _ :: _, [] => by simp [eqDs]
  | x :: xs, y :: ys => by
    rw [Bool.eq_iff_iff]
    simp [eqDs, zlw (a := xs) (b := ys)]
@[simp] theorem ziy {c : Cell} {l : List Cell} : ((l.map cD).any fun y => eqD y (cD c)) = decide (c ∈ l) := by
  rw [Bool.eq_iff_iff]
  simp [List.any_map, List.any_eq_true]
theorem zcp (n : Nat) (i a b : Int) : zaX U zat (n + 1) 0 [.int i, .int a, .int b] = some (.val (.bl (decide (a ≤ i) && decide (i ≤ b)))) := by
  rw [zau U0 rfl]
  simp [ir0]
  by_cases h : a ≤ i <;> simp [h]
theorem zet (n : Nat) (c : Cell) : zaX U zat (n + 1) 1 [cD c] = some (.val (.bl true)) := by
  rw [zau U1 rfl]
  simp [ir1, cD]
noncomputable def okC (c : Cell) : Prop := 0 ≤ c.1 ∧ c.1 ≤ 7 ∧ 0 ≤ c.2 ∧ c.2 ≤ 7
theorem zgI (n : Nat) {c : Cell} (h : okC c) : zaX U zat (n + 2) 2 [cD c] = some (.val (.bl true)) := by
  rw [zau U2 rfl]
  obtain ⟨h1, h2, h3, h4⟩ := h
  have h0 := zet n c
  simp [ir2, h0, zcp]
  simp [cD, zcp, h1, h2, h3, h4]
noncomputable def cLt (a b : Cell) : Prop := a.1 < b.1 ∨ (a.1 = b.1 ∧ a.2 < b.2)
noncomputable instance (a b : Cell) : Decidable (cLt a b) := by unfold cLt; exact inferInstance
@[simp] theorem zxK {a b : Cell} : zaj .lt [cD a, cD b] = some (.val (.bl (decide (cLt a b)))) := by
  simp only [cD, zaj, pLt, ints?, Option.map_some, Option.bind_some, okBl, lexLt]
  congr 3
  rw [Bool.eq_iff_iff]
  simp only [cLt]
  by_cases h : a.1 = b.1
  · simp [h]
    by_cases h2 : a.2 = b.2
    · simp [h2]
    · simp [h2]
  · simp [h]
theorem znb {a b c : Cell} (h : cLt a b) (h' : cLt b c) : cLt a c := by
  unfold cLt at *; omega
theorem zlx {a : Cell} : ¬ cLt a a := by unfold cLt; omega
theorem znc {a b : Cell} (h : a ≠ b) : cLt a b ∨ cLt b a := by
  unfold cLt
  have : a.1 ≠ b.1 ∨ a.2 ≠ b.2 := by
    by_cases h1 : a.1 = b.1
    · right; intro h2; exact h (Prod.ext h1 h2)
    · exact .inl h1
  omega
structure OkF (f : List Cell) : Prop where
  ne : f ≠ []
  len : f.length ≤ 24
  cells : ∀ c ∈ f, okC c
  rise : f.Pairwise cLt
theorem OkF.nodup {f : List Cell} (h : f.Pairwise cLt) : f.Nodup := h.imp fun hab e => by subst e; exact zlx hab
theorem zbY : (100000 : Nat) ≤ line := by decide
theorem ziz {α : Type} {f : α → Bool} : ∀ {l : List α}, bools? (l.map fun x => D.bl (f x)) = some (l.map f)
  | [] => rfl
  | x :: r => by simp [bools?, ziz (l := r)]
theorem ziA {α : Type} {f : α → Bool} {l : List α} : zaj .all [.lst (l.map fun x => D.bl (f x))] = some (.val (.bl (l.all f))) := by
  simp [zaj, pAll, ziz, List.all_map, Function.comp_def]
theorem zly (n : Nat) {l : Cell} (h : 0 ≤ l.1 ∧ l.1 ≤ l.2 ∧ 1 ≤ l.2 ∧ l.2 ≤ 4) : zaX U zat (n + 2) 3 [cD l] = some (.val (.bl true)) := by
  rw [zau U3 rfl]
  obtain ⟨h1, h2, h3, h4⟩ := h
  have h0 := zet n l
  simp [ir3, h0]
  simp [cD, zcp, h1, h2, h3, h4]
theorem zcj {i : Int} (h : 0 ≤ i) (h' : i ≤ 1000000) : inR i := by unfold inR; omega
theorem zgJ {a b : Int} (h : inR a ∧ inR b) : zaH true [.val (.int a), .val (.int b)] = some ((List.range (b - a).toNat).map fun (k : Nat) => D.int (a + (k : Int))) := by simp [zaH, h]
theorem zgK {a : Int} (h : inR a) : zaH true [.val (.int a)] = some ((List.range a.toNat).map fun (k : Nat) => D.int (0 + (k : Int))) := by simp [zaH, h]
@[simp] theorem ztK {l : List D} : zaH false [.val (.tup l)] = some l := id rfl
@[simp] theorem ztL {l : List D} : zaH false [.val (.lst l)] = some l := id rfl
@[simp] theorem ztM {o : Bool} {l : List D} : zaH false [.obj o (.lst l)] = some l := id rfl
theorem zdJ {f : List Cell} {k : Nat} (h : k < f.length) : zaj .idx [fD f, .int (k : Int)] = some (.val (cD f[k])) := by
  rw [fD, zty, atI_nat (by simpa using h)]; simp
theorem ziB (n : Nat) {f : List Cell} (hl : f.length ≤ 1000) (h : f.Pairwise cLt) : zaX U zat (n + 1) 4 [fD f] = some (.val (.bl true)) := by
  rw [zau U4 rfl]
  have hl' := zbY
  have e3 : ((f.length : Int) - 1).toNat = f.length - 1 := by omega
  simp only [ir4]
  simp
  rw [zbS (rs := [.val (.int 1), .val (.int f.length)]) (xs := List.range (f.length - 1)) (f := fun (k : Nat) => D.int (1 + (k : Int))) (fun _ => .bl true)]
  · simp [ziA]
  · simp [fD]
  · rw [zgJ ⟨zcj (by omega) (by omega), zcj (by omega) (by omega)⟩, e3]
  · simp; omega
  · intro k hk
    rw [List.mem_range] at hk
    have e1 : (1 + (k : Int) - 1) = (k : Int) := by omega
    have e2 : (1 + (k : Int)) = ((k + 1 : Nat) : Int) := by omega
    have hk1 : k < f.length := by omega
    have hk2 : k + 1 < f.length := by omega
    have := List.pairwise_iff_getElem.mp h k (k + 1) hk1 hk2 (by omega)
    simp [e1]
    rw [zdJ hk1, e2, zdJ hk2]
    simp [this]
@[simp] theorem zvB {f : List Cell} : ze4 .tuple (fD f) = true := id rfl
@[simp] theorem zvC {c : Cell} : ze4 .tuple (cD c) = true := id rfl
theorem zoM {f : List Cell} : zaj .len [fD f] = some (.val (.int f.length)) := by simp [fD]
theorem zjN (n : Nat) {f : List Cell} (h : OkF f) : zaX U zat (n + 3) 5 [fD f] = some (.val (.bl true)) := by
  rw [zau U5 rfl]
  have hl' := zbY
  have h1 := h.len
  have h2 : 1 ≤ f.length := by have := h.ne; cases f <;> simp_all
  have hr := ziB (n + 1) (by omega) h.rise
  simp -implicitDefEqProofs only [ir5]
  simp -implicitDefEqProofs [zoM, show (1 : Int) ≤ f.length by omega, show (f.length : Int) ≤ 24 by omega, hr]
  rw [zbS (rs := [.val (fD f)]) (xs := f) (f := cD) (fun _ => .bl true)]
  · simp -implicitDefEqProofs [ziA, fD]
  · simp
  · rfl
  · omega
  · intro c hc
    simp -implicitDefEqProofs [zgI n (h.cells c hc)]
theorem zgL (n : Nat) {f : List Cell} (h : OkF f) : zaX U zat (n + 4) 6 [fD f] = some (.val (fD f)) := by
  rw [zau U6 rfl]
  simp [ir6, zjN n h]
structure OkL (l : Cell) : Prop where
  a : 0 ≤ l.1
  b : l.1 ≤ l.2
  c : 1 ≤ l.2
  d : l.2 ≤ 4
theorem zbZ (n : Nat) {l : Cell} (h : OkL l) : zaX U zat (n + 3) 7 [cD l] = some (.val (cD l)) := by
  rw [zau U7 rfl]
  simp [ir7, zly n ⟨h.a, h.b, h.c, h.d⟩]
theorem ztN {c : Cell} {f : List Cell} : zaj .nin [cD c, fD f] = some (.val (.bl (!decide (c ∈ f)))) := by
  simp only [fD, zaj, pNin, zjM, zgH, Bool.and_self, if_true, ziy, okBl]
theorem zwU {c : Cell} {f : List Cell} : zaj .inn [cD c, lD f] = some (.val (.bl (decide (c ∈ f)))) := by
  simp only [lD, zaj, pIn, zjM, zgH, Bool.and_self, if_true, ziy, okBl]
theorem zcL (n : Nat) {f : List Cell} {c : Cell} (h : okC c) (hc : c ∈ f) : zaX U zat (n + 3) 8 [fD f, cD c] = some (.val (cD c)) := by
  rw [zau U8 rfl]
  simp [ir8, zgI n h, ztN, hc]
noncomputable def absI (i : Int) : Int := if i < 0 then -i else i
noncomputable def near (l a b : Cell) : Bool := decide ((min (absI (a.1 - b.1)) (absI (a.2 - b.2)), max (absI (a.1 - b.1)) (absI (a.2 - b.2))) = l)
theorem zdK (a b : Int) : absI (a - b) = absI (b - a) := by unfold absI; split <;> split <;> omega
theorem zcM (l a b : Cell) : near l a b = near l b a := by unfold near; rw [zdK a.1, zdK a.2]
@[simp] theorem cD_0 {c : Cell} : zaj .idx [cD c, .int 0] = some (.val (.int c.1)) := id rfl
@[simp] theorem cD_1 {c : Cell} : zaj .idx [cD c, .int 1] = some (.val (.int c.2)) := id rfl
theorem zwV {a b : Cell} : zaj .eq [cD a, cD b] = some (.val (.bl (decide (a = b)))) := by rw [p_eq (by simp) (by simp), zkJ]
noncomputable def fold (x y : Int) : Cell := (min (absI x) (absI y), max (absI x) (absI y))
theorem zfo (n : Nat) (x y : Int) : zaX U zat (n + 1) 9 [.int x, .int y] = some (.val (cD (fold x y))) := by
  rw [zau U9 rfl]
  have e : ∀ x y : Int, D.tup [.int (if y < x then y else x), .int (if y > x then y else x)] = cD (min x y, max x y) := by
    intro x y
    have e1 : (if y < x then y else x) = min x y := by split <;> omega
    have e2 : (if y > x then y else x) = max x y := by split <;> omega
    rw [e1, e2]; rfl
  simp [ir9, -zpL, -zpM]
  simp only [zpL, zpM, Option.bind_some, toDs, toD, Option.map_some, Function.comp_apply]
  simp
  rw [e]
  rfl
theorem znd (l a b : Cell) : decide (fold (b.1 - a.1) (b.2 - a.2) = l) = near l a b := by
  unfold near fold; rw [zdK a.1, zdK a.2]
theorem zjO (n : Nat) (l a b : Cell) : zaX U zat (n + 2) 10 [cD l, cD a, cD b] = some (.val (.bl (near l a b))) := by
  rw [zau U10 rfl]
  simp [ir10, zfo, zwV, znd]
theorem zhn (n : Nat) (l c : Cell) {f : List Cell} (h : f.length ≤ 1000) : zaX U zat (n + 3) 11 [fD f, cD l, cD c] = some (.obj true (.lst ((f.filter (near l c)).map cD))) := by
  rw [zau U11 rfl]
  have hl' := zbY
  simp only [ir11]
  simp
  rw [zdI (rs := [.val (fD f)]) (xs := f) (f := cD) (near l c) cD]
  · simp
  · simp
  · rfl
  · omega
  · intro x _; simp [zjO]
  · intro x _ _; simp
end LK
set_option linter.all false
namespace LK
open L2.LW
noncomputable def sm (a : Int) : Prop := -(2 ^ 64) < a ∧ a < 2 ^ 64
theorem zq3 {a : Int} (h : -1000000 ≤ a) (h' : a ≤ 1000000) : sm a := by unfold sm; omega
theorem zne {a b : Int} (h : sm b) : zaj .mul [.int a, .int b] = some (.val (.int (a * b))) := ztt h
noncomputable def sD (ns : List Int) : D := .lst (ns.map D.int)
noncomputable def zdg (ns : List Int) (k : Int) : Int := ns.getD k.toNat 0
theorem zbl (n : Nat) (ns : List Int) {k : Int} (h : 0 ≤ k) : zaX U zat (n + 1) 13 [sD ns, .int k] = some (.val (.int (zdg ns k))) := by
  rw [zau U13 rfl]
  obtain ⟨j, rfl⟩ := Int.eq_ofNat_of_zero_le h
  simp only [ir13]
  by_cases hj : j < ns.length
  · have hj' : (j : Int) < (ns.length : Int) := by omega
    simp [sD, hj']
    rw [zm8, atI_nat (by simpa using hj)]
    simp [zdg, hj]
  · have hj' : ¬ (j : Int) < (ns.length : Int) := by omega
    simp [sD, hj']
    simp [zdg, List.getElem?_eq_none (by omega : ns.length ≤ j)]
theorem zbK (n : Nat) (x : Int) {p m : Int} (h : 0 < p) (h' : 0 < m) : zaX U zat (n + 1) 14 [.int x, .int p, .int m] = some (.val (.int (x * 48271 % p % m))) := by
  rw [zau U14 rfl]
  simp [ir14, zne (zq3 (a := 48271) (by decide) (by decide)), zfn h, zfn h']
structure Built (down right wide : Int) (r k : Int) (fs : List Cell) : Prop where
  rise : fs.Pairwise cLt
  at_ : ∀ x ∈ fs, down ≤ x.1 ∧ right ≤ x.2 ∧ x.2 < right + wide ∧ (x.1 < down + r ∨ (x.1 = down + r ∧ x.2 < right + k))
theorem Built.next {down right wide r k : Int} {fs : List Cell} (b : Built down right wide r k fs) (hk : 0 ≤ k) (hw : k < wide) (hr : 0 ≤ r) : Built down right wide r (k + 1) (fs ++ [(down + r, right + k)]) := by
  refine ⟨?_, fun x hx => ?_⟩
  · rw [List.pairwise_append]
    refine ⟨b.rise, by simp, fun x hx y hy => ?_⟩
    simp only [List.mem_singleton] at hy
    subst hy
    have := b.at_ x hx
    unfold cLt; simp only; omega
  · rw [List.mem_append, List.mem_singleton] at hx
    rcases hx with hx | rfl
    · have := b.at_ x hx; omega
    · show down ≤ down + r ∧ right ≤ right + k ∧ right + k < right + wide ∧ (down + r < down + r ∨ (down + r = down + r ∧ right + k < right + (k + 1)))
      omega
theorem Built.skip {down right wide r k : Int} {fs : List Cell} (b : Built down right wide r k fs) : Built down right wide r (k + 1) fs :=
  ⟨b.rise, fun x hx => by have := b.at_ x hx; omega⟩
theorem Built.row {down right wide r : Int} {fs : List Cell} (b : Built down right wide r wide fs) : Built down right wide (r + 1) 0 fs :=
  ⟨b.rise, fun x hx => by have := b.at_ x hx; omega⟩
theorem idx3 (a b c : D) {w : Int} (h : w = 0 ∨ w = 1 ∨ w = 2) : ∃ d, (d = a ∨ d = b ∨ d = c) ∧ zaj .idx [.lst [a, b, c], .int w] = some (.val d) := by
  rcases h with rfl | rfl | rfl
  · exact ⟨a, .inl rfl, rfl⟩
  · exact ⟨b, .inr (.inl rfl), rfl⟩
  · exact ⟨c, .inr (.inr rfl), rfl⟩
@[simp] theorem zrK {fs : List Cell} {a b : Int} : fs.map cD ++ [.tup [.int a, .int b]] = (fs ++ [(a, b)]).map cD := by simp [cD]
theorem zjP (n : Nat) (ns : List Int) {at_ most x rows wide down right way r k : Int} {j12 : Option SV} {fs : List Cell} (h0 : 0 ≤ at_) (hr : 0 ≤ r ∧ r ≤ 1000) (hk : 0 ≤ k ∧ k ≤ 1000) (hw : 0 ≤ way ∧ way < 4) (hl : fs.length ≤ 1000) (hj : za5 (some j12) = true) :
    ∃ v fs', za5 (some v) = true ∧ exSs (zas U zat (n + 1)) zat zkE [some (.val (sD ns)), some (.val (.int at_)), some (.val (.int most)), some (.val (.int x)), some (.val (.int rows)), some (.val (.int wide)), some (.val (.int down)), some (.val (.int right)), some (.val (.int way)),
      some (.obj true (.lst (fs.map cD))), some (.val (.int r)), some (.val (.int k)), j12] =
      some (.nx, [some (.val (sD ns)), some (.val (.int at_)), some (.val (.int most)), some (.val (.int x)), some (.val (.int rows)), some (.val (.int wide)), some (.val (.int down)), some (.val (.int right)), some (.val (.int way)),
      some (.obj true (.lst (fs'.map cD))), some (.val (.int r)), some (.val (.int k)), v]) ∧ (fs' = fs ∨ fs' = fs ++ [(down + r, right + k)]) := by
  have m1 : sm r := zq3 (by omega) (by omega)
  have m2 : sm k := zq3 (by omega) (by omega)
  have h7 : (0 : Int) < 7 := by decide
  have hi : 0 ≤ at_ + 2 + (r + 2 * k) % 7 := by omega
  have hl' := zbY
  have hl2 : fs.length < line := by omega
  simp only [zkE]
  simp [zne m1, zne m2, zfn h7, zbl n ns hi, hj]
  by_cases hz : way = 0
  · simp [hz, hl2]
    exact ⟨_, zbk, fs ++ [(down + r, right + k)], by simp; rfl, .inr rfl⟩
  · obtain ⟨d, hd, e⟩ := idx3 (.int 2) (.int 4) (.int 7) (w := way - 1) (by omega)
    simp [hz, e]
    have key : ∃ m, d = .int m ∧ 0 < m := by
      rcases hd with rfl | rfl | rfl
      · exact ⟨_, rfl, by decide⟩
      · exact ⟨_, rfl, by decide⟩
      · exact ⟨_, rfl, by decide⟩
    obtain ⟨m, rfl, hm⟩ := key
    simp [zbK n _ (show (0 : Int) < 9931 by decide) hm]
    split
    · simp [hl2]
      exact ⟨_, zbk, fs ++ [(down + r, right + k)], by simp; rfl, .inr rfl⟩
    · exact ⟨_, zbk, fs, rfl, .inl rfl⟩
noncomputable def flE (ns : List Int) (at_ most x rows wide down right way : Int) (fs : List Cell) (a b c : Option SV) : Env :=
  [some (.val (sD ns)), some (.val (.int at_)), some (.val (.int most)), some (.val (.int x)), some (.val (.int rows)), some (.val (.int wide)), some (.val (.int down)), some (.val (.int right)), some (.val (.int way)), some (.obj true (.lst (fs.map cD))), a, b, c]
theorem znf (n : Nat) (ns : List Int) {at_ most x rows wide down right way : Int} {r : Nat} {fs : List Cell} {b c : Option SV} (h0 : 0 ≤ at_) (hr : r ≤ 100) (hw : 0 ≤ wide ∧ wide ≤ 6) (hy : 0 ≤ way ∧ way < 4) (hl : fs.length ≤ 6 * r) (hb : Built down right wide r 0 fs) (fb : za5 (some b) = true) (fc : za5 (some c) = true) :
    ∃ a' b' c' fs', (za5 (some a') = true ∧ za5 (some b') = true ∧ za5 (some c') = true) ∧ exSs (zas U zat (n + 1)) zat ziv (flE ns at_ most x rows wide down right way fs (some (.val (.int r))) b c) = some (.nx, flE ns at_ most x rows wide down right way fs' a' b' c') ∧ fs'.length ≤ 6 * (r + 1) ∧ Built down right wide (r + 1 : Nat) 0 fs' := by
  obtain ⟨ρ', h1, b', c', fs', fr, rfl, h2, h3⟩ := zkD (i := 11) (a := 0) (m := wide.toNat) (body := exSs (zas U zat (n + 1)) zat zkE)
    (fun k ρ => ∃ b' c' fs', (za5 (some b') = true ∧ za5 (some c') = true) ∧ ρ = flE ns at_ most x rows wide down right way fs' (some (.val (.int r))) b' c' ∧ fs'.length ≤ 6 * r + k ∧ Built down right wide r (k : Int) fs') (ρ := flE ns at_ most x rows wide down right way fs (some (.val (.int r))) b c)
    ⟨b, c, fs, ⟨fb, fc⟩, rfl, by omega, hb⟩ fun k ρ hk zz3 => by
      obtain ⟨b', c', fs', fr, e, h2, h3⟩ := zz3
      subst e
      obtain ⟨v, fs2, fv, e1, e2⟩ := zjP n ns (at_ := at_) (most := most) (x := x) (rows := rows) (wide := wide) (down := down) (right := right) (way := way) (r := r) (k := 0 + (k : Int)) (j12 := c') (fs := fs') h0 (by omega) (by omega) hy (by omega) fr.2
      refine ⟨_, _, e1, .inl rfl, _, v, fs2, ⟨zbk, fv⟩, rfl, ?_⟩
      rw [Int.zero_add] at e2
      rcases e2 with rfl | rfl
      · exact ⟨by omega, h3.skip⟩
      · exact ⟨by simp; omega, h3.next (by omega) (by omega) (by omega)⟩
  refine ⟨some (.val (.int r)), b', c', fs', ⟨zbk, fr.1, fr.2⟩, ?_, by omega, ?_⟩
  · simp only [ziv, zfl, zek, zis, zkB, zm3, zm4]
    rw [show (flE ns at_ most x rows wide down right way fs (some (.val (.int r))) b c)[11]? = some b from rfl, fb, show look (flE ns at_ most x rows wide down right way fs (some (.val (.int r))) b c) 5 = some (.val (.int wide)) from rfl]
    simp [zgK (zcj hw.1 (by omega : wide ≤ 1000000))]
    rw [show (List.map (fun (k : Nat) => D.int (k : Int)) (List.range wide.toNat)) = (List.range wide.toNat).map fun (k : Nat) => D.int (0 + (k : Int)) by simp, h1]
    simp
  · have e : (wide.toNat : Int) = wide := by omega
    rw [e] at h3
    have := h3.row
    simpa using this
theorem zng (n : Nat) (ns : List Int) {at_ most x rows wide down right way : Int} {a b c : Option SV} (h0 : 0 ≤ at_) (hr : 0 ≤ rows ∧ rows ≤ 5) (hw : 0 ≤ wide ∧ wide ≤ 6) (hy : 0 ≤ way ∧ way < 4) (fa : za5 (some a) = true) (fb : za5 (some b) = true) (fc : za5 (some c) = true) :
    ∃ a' b' c' fs', exS (zas U zat (n + 1)) zat (.for_ 10 true (.cons (.var 4) .nil) ziv) (flE ns at_ most x rows wide down right way [] a b c) = some (.nx, flE ns at_ most x rows wide down right way fs' a' b' c') ∧ Built down right wide rows 0 fs' ∧ fs'.length ≤ 30 := by
  obtain ⟨ρ', h1, a', b', c', fs', fr, rfl, h2, h3⟩ := zkD (i := 10) (a := 0) (m := rows.toNat) (body := exSs (zas U zat (n + 1)) zat ziv)
    (fun k ρ => ∃ a' b' c' fs', (za5 (some a') = true ∧ za5 (some b') = true ∧ za5 (some c') = true) ∧ ρ = flE ns at_ most x rows wide down right way fs' a' b' c' ∧ fs'.length ≤ 6 * k ∧ Built down right wide (k : Int) 0 fs') (ρ := flE ns at_ most x rows wide down right way [] a b c)
    ⟨a, b, c, [], ⟨fa, fb, fc⟩, rfl, by simp, ⟨by simp, by simp⟩⟩ fun k ρ hk zz3 => by
      obtain ⟨a', b', c', fs', fr, e, h2, h3⟩ := zz3
      subst e
      obtain ⟨a2, b2, c2, fs2, fr2, e1, e2, e3⟩ := znf n ns (at_ := at_) (most := most) (x := x) (rows := rows) (wide := wide) (down := down) (right := right) (way := way) (r := k) (fs := fs') (b := b') (c := c') h0 (by omega) hw hy h2 h3 fr.2.1 fr.2.2
      refine ⟨_, _, ?_, .inl rfl, a2, b2, c2, fs2, fr2, rfl, e2, e3⟩
      rw [Int.zero_add]
      exact e1
  refine ⟨a', b', c', fs', ?_, ?_, by omega⟩
  · simp only [zek, zis, zkB, zm3, zm4]
    rw [show (flE ns at_ most x rows wide down right way [] a b c)[10]? = some a from rfl, fa, show look (flE ns at_ most x rows wide down right way [] a b c) 4 = some (.val (.int rows)) from rfl]
    simp [zgK (zcj hr.1 (by omega : rows ≤ 1000000))]
    rw [show (List.map (fun (k : Nat) => D.int (k : Int)) (List.range rows.toNat)) = (List.range rows.toNat).map fun (k : Nat) => D.int (0 + (k : Int)) by simp, h1]
  · have e : (rows.toNat : Int) = rows := by omega
    rw [e] at h3
    exact h3
theorem zpQ {fs : List Cell} {k : Int} (h : 0 ≤ k) : zaj .cutTo [.lst (fs.map cD), .int k] = some (.obj true (.lst ((fs.take k.toNat).map cD))) := by
  simp [zaj, zkl, h]
noncomputable def zwW (f : List Cell) : Prop := ∃ d : Int, ∀ c ∈ f, d ≤ c.1 ∧ c.1 < d + 5
theorem zho (n : Nat) (ns : List Int) {at_ most : Int} (h0 : 0 ≤ at_) (hm : 1 ≤ most) (hm2 : most ≤ 24) : ∃ f, OkF f ∧ (f.length : Int) ≤ most ∧ zwW f ∧ zaX U zat (n + 2) 15 [sD ns, .int at_, .int most] = some (.val (fD f)) := by
  rw [zau U15 rfl]
  simp only [ir15]
  have p5 : (0 : Int) < 5 := by decide
  have p6 : (0 : Int) < 6 := by decide
  have p4 : (0 : Int) < 4 := by decide
  have q1 : (0 : Int) < 9973 := by decide
  have q2 : (0 : Int) < 9967 := by decide
  have q3 : (0 : Int) < 9949 := by decide
  have q4 : (0 : Int) < 9941 := by decide
  have q5 : (0 : Int) < 9907 := by decide
  have h1 : 0 ≤ at_ + 1 := by omega
  simp [zbl n ns h0, zbl n ns h1, zbK n _ q1 p5, zbK n _ q2 p6, zbK n _ q5 p4]
  generalize hx : zdg ns at_ = x
  generalize hrows : 1 + x * 48271 % 9973 % 5 = rows
  generalize hwide : 1 + x * 48271 % 9967 % 6 = wide
  have hr9 : 0 < 9 - rows := by omega
  have hw9 : 0 < 9 - wide := by omega
  simp [zbK n _ q3 hr9, zbK n _ q4 hw9, zbl n ns h1, zbK n _ q5 p4]
  generalize hdown : zdg ns (at_ + 1) * 48271 % 9949 % (9 - rows) = down
  generalize hright : zdg ns (at_ + 1) * 48271 % 9941 % (9 - wide) = right
  generalize hway : (x + 3) * 48271 % 9907 % 4 = way
  have bw : 0 ≤ way ∧ way < 4 := by omega
  have bd : 0 ≤ down ∧ down < 9 - rows := by rw [← hdown]; exact ⟨Int.emod_nonneg _ (by omega), Int.emod_lt_of_pos _ hr9⟩
  have br : 0 ≤ right ∧ right < 9 - wide := by rw [← hright]; exact ⟨Int.emod_nonneg _ (by omega), Int.emod_lt_of_pos _ hw9⟩
  obtain ⟨a', b', c', fs, e1, hb, hl⟩ := zng n ns (at_ := at_) (most := most) (x := x) (rows := rows) (wide := wide) (down := down) (right := right) (way := way) (a := none) (b := none) (c := none) h0 (by omega) (by omega) bw rfl rfl rfl
  have e1' := e1
  simp only [flE, List.map_nil] at e1'
  have hok : ∀ c ∈ fs, okC c := fun c hc => by
    have := hb.at_ c hc
    unfold okC; omega
  by_cases hf : fs = []
  · subst hf
    refine ⟨[(down, right)], ⟨by simp, by simp, fun c hc => ?_, by simp⟩, by simp; omega, ⟨down, fun c hc => ?_⟩, ?_⟩
    · simp at hc; subst hc; unfold okC; simp only; omega
    · simp at hc; subst hc; simp only; omega
    · simp [e1']
      rw [show D.tup [.int down, .int right] = cD (down, right) from rfl, show ([cD (down, right)] : List D) = [(down, right)].map cD from rfl, zpQ (by omega)]
      rw [List.take_of_length_le (by simp; omega)]
      simp [fD]
  · refine ⟨fs.take most.toNat, ⟨fun h => ?_, ?_, fun c hc => hok c (List.mem_of_mem_take hc), hb.rise.sublist (List.take_sublist _ _)⟩, ?_, ⟨down, fun c hc => ?_⟩, ?_⟩
    · rw [List.take_eq_nil_iff] at h
      rcases h with h | h
      · omega
      · exact hf h
    · rw [List.length_take]; omega
    · rw [List.length_take]; omega
    · have := hb.at_ c (List.mem_of_mem_take hc)
      omega
    · have hne : fs.map cD ≠ [] := by simpa using hf
      simp [e1', hne, hf]
      rw [zpQ (by omega)]
      simp [fD]
theorem ziC (n : Nat) (ns : List Int) {at_ most : Int} (h0 : 0 ≤ at_) (hm : 1 ≤ most) (hm2 : most ≤ 24) : ∃ f, OkF f ∧ (f.length : Int) ≤ most ∧ zaX U zat (n + 2) 15 [sD ns, .int at_, .int most] = some (.val (fD f)) := by
  obtain ⟨f, h1, h2, _, h3⟩ := zho n ns h0 hm hm2
  exact ⟨f, h1, h2, h3⟩
end LK
set_option linter.all false
namespace LK
open L2.LW
noncomputable def zfp : List Cell := [(1, 2), (0, 1), (1, 1), (1, 2), (0, 2), (1, 3), (2, 3), (0, 1), (1, 2), (2, 2), (0, 3), (1, 4), (2, 4), (3, 3), (3, 4), (0, 4), (4, 4), (1, 2), (1, 1)]
theorem zlz : ∀ l ∈ zfp, OkL l := by
  intro l hl
  simp only [zfp, List.mem_cons, List.not_mem_nil, or_false] at hl
  rcases hl with rfl | rfl | rfl | rfl | rfl | rfl | rfl | rfl | rfl | rfl | rfl | rfl | rfl | rfl | rfl | rfl | rfl | rfl | rfl <;> exact ⟨by decide, by decide, by decide, by decide⟩
theorem zjQ (n : Nat) (x : Int) : ∃ l, OkL l ∧ zaX U zat (n + 1) 16 [.int x] = some (.val (cD l)) := by
  rw [zau U16 rfl]
  have h19 : (0 : Int) < 19 := by decide
  have hl := zbY
  obtain ⟨k, hk⟩ := Int.eq_ofNat_of_zero_le (Int.emod_nonneg x (by decide : (19 : Int) ≠ 0))
  have hk2 : k < 19 := by have := Int.emod_lt_of_pos x h19; omega
  have hlen : zfp.length = 19 := rfl
  refine ⟨zfp[k]'(by omega), zlz _ (List.getElem_mem _), ?_⟩
  simp only [ir16]
  simp [zfn h19, hk]
  rw [zts (by simp; omega)]
  simp
  rw [show ([D.tup [.int 1, .int 2], .tup [.int 0, .int 1], .tup [.int 1, .int 1], .tup [.int 1, .int 2], .tup [.int 0, .int 2], .tup [.int 1, .int 3], .tup [.int 2, .int 3], .tup [.int 0, .int 1], .tup [.int 1, .int 2], .tup [.int 2, .int 2], .tup [.int 0, .int 3], .tup [.int 1, .int 4], .tup [.int 2, .int 4],
    .tup [.int 3, .int 3], .tup [.int 3, .int 4], .tup [.int 0, .int 4], .tup [.int 4, .int 4], .tup [.int 1, .int 2], .tup [.int 1, .int 1]] : List D) = zfp.map cD from rfl]
  rw [zm8, atI_nat (by simp; omega)]
  simp
theorem pick {f : List Cell} (h : f ≠ []) (x : Int) : ∃ k, ∃ hk : k < f.length, x % (f.length : Int) = (k : Int) := by
  have hp : 0 < (f.length : Int) := by cases f <;> simp_all
  obtain ⟨k, hk⟩ := Int.eq_ofNat_of_zero_le (Int.emod_nonneg x (by omega : (f.length : Int) ≠ 0))
  have := Int.emod_lt_of_pos x hp
  exact ⟨k, by omega, hk⟩
noncomputable def depth : Nat := 40
end LK
set_option linter.all false
namespace LK
open L2.LW
noncomputable abbrev Ms := List (Cell × Cell)
noncomputable def dD (ms : Ms) : D := .dct true (ms.map fun p => cD p.1) (ms.map fun p => cD p.2)
noncomputable def get (ms : Ms) (c : Cell) : Option Cell := (ms.find? fun p => decide (p.1 = c)).map (·.2)
noncomputable def put (ms : Ms) (c v : Cell) : Ms := if (get ms c).isSome then ms.map (fun p => if p.1 = c then (p.1, v) else p) else ms ++ [(c, v)]
@[simp] theorem zfq {c : Cell} : zbH true (cD c) = true := by simp [cD, zbH, ints?]
theorem ziD (c : Cell) : ∀ l : List Cell, kix (l.map cD) (cD c) = l.findIdx? fun x => decide (x = c)
  | [] => rfl
  | x :: r => by
    have ih := ziD c r
    unfold kix at ih ⊢
    rw [List.map_cons, List.findIdx?_cons, List.findIdx?_cons, zkJ, ih]
theorem zcq (c : Cell) : ∀ l : List Cell, (kix (l.map cD) (cD c)).isSome = decide (c ∈ l) := fun l => by
  rw [ziD]
  cases e : l.findIdx? fun x => decide (x = c) with
  | none =>
    rw [List.findIdx?_eq_none_iff] at e
    have : c ∉ l := fun h => by have := e c h; simp at this
    simp [this]
  | some i =>
    obtain ⟨h1, h2, _⟩ := List.findIdx?_eq_some_iff_getElem.mp e
    have : c ∈ l := by
      have h2 : l[i] = c := by simpa using h2
      rw [← h2]; exact List.getElem_mem h1
    simp [this]
theorem zoN (p : Cell × Cell) (r : Ms) (c : Cell) : get (p :: r) c = if p.1 = c then some p.2 else get r c := by
  unfold get
  rw [List.find?_cons]
  by_cases h : p.1 = c <;> simp [h]
theorem zc1 (c : Cell) : ∀ ms : Ms, (get ms c).isSome = decide (c ∈ ms.map (·.1))
  | [] => rfl
  | p :: r => by
    rw [zoN, List.map_cons]
    by_cases h : p.1 = c
    · simp [h]
    · rw [if_neg h, zc1 c r]
      have : ¬ c = p.1 := fun z => h z.symm
      simp [this]
theorem znh (ms : Ms) : (ms.map fun p => cD p.1) = (ms.map (·.1)).map cD := by rw [List.map_map]; rfl
@[simp] theorem zxL {c : Cell} {ms : Ms} : zaj .inn [cD c, dD ms] = some (.val (.bl (get ms c).isSome)) := by
  simp only [dD, zaj, pIn, zfq, if_true, okBl, znh, zcq, zc1]
@[simp] theorem zxC {c : Cell} {ms : Ms} : zaj .nin [cD c, dD ms] = some (.val (.bl (!(get ms c).isSome))) := by
  simp only [dD, zaj, pNin, zfq, if_true, okBl, znh, zcq, zc1]
@[simp] theorem ztO {ms : Ms} : zbq (ms.map fun p => cD p.2) = true := by
  have : (ms.map fun p => cD p.2) = (ms.map (·.2)).map cD := by rw [List.map_map]; rfl
  rw [this]; exact zes
@[simp] theorem zvD {ms : Ms} : zf7 (dD ms) = true := by simp [dD]
@[simp] theorem ztP {ms : Ms} : zbO (dD ms) = true := by simp [dD]
noncomputable def ztQ (ms : Ms) : Prop := (ms.map (·.1)).Nodup
theorem zbP {α : Type} [DecidableEq α] : ∀ {l m : List α}, l.Nodup → (∀ x ∈ l, x ∈ m) → l.length ≤ m.length
  | [], _, _, _ => Nat.zero_le _
  | x :: r, m, hn, hs => by
    rw [List.nodup_cons] at hn
    have hx := hs x List.mem_cons_self
    have ih := zbP (l := r) (m := m.erase x) hn.2 fun y hy => by
      rw [List.mem_erase_of_ne (fun e => hn.1 (by rw [← e]; exact hy))]
      exact hs y (List.mem_cons_of_mem _ hy)
    rw [List.length_erase_of_mem hx] at ih
    have : 0 < m.length := List.length_pos_of_mem hx
    simp; omega
noncomputable def divs (l : Cell) : List Int := ((List.range l.2.toNat).map fun (k : Nat) => (1 + (k : Int))).filter fun d => decide (l.1 % d = 0) && decide (l.2 % d = 0)
noncomputable def gdiv (l : Cell) : Int := match divs l with
  | [] => 1
  | n :: r => r.foldl max n
theorem zjR {l : Cell} (h : OkL l) : l ∈ [((0 : Int), (1 : Int)), (1, 1), (0, 2), (1, 2), (2, 2), (0, 3), (1, 3), (2, 3), (3, 3), (0, 4), (1, 4), (2, 4), (3, 4), (4, 4)] := by
  obtain ⟨h1, h2, h3, h4⟩ := h
  have all : ∀ i j : Fin 5, i.1 ≤ j.1 → 1 ≤ j.1 → (((i.1 : Nat) : Int), ((j.1 : Nat) : Int)) ∈ [((0 : Int), (1 : Int)), (1, 1), (0, 2), (1, 2), (2, 2), (0, 3), (1, 3), (2, 3), (3, 3), (0, 4), (1, 4), (2, 4), (3, 4), (4, 4)] := by decide +kernel
  have := all ⟨l.1.toNat, by omega⟩ ⟨l.2.toNat, by omega⟩ (by simp only; omega) (by simp only; omega)
  simp only at this
  rw [Int.toNat_of_nonneg h1, Int.toNat_of_nonneg (by omega)] at this
  exact this
theorem OkL.cases {P : Cell → Prop} {l : Cell} (h : OkL l) (p : ∀ x ∈ [((0 : Int), (1 : Int)), (1, 1), (0, 2), (1, 2), (2, 2), (0, 3), (1, 3), (2, 3), (3, 3), (0, 4), (1, 4), (2, 4), (3, 4), (4, 4)], P x) : P l := p l (zjR h)
theorem zeW {l : Cell} (h : OkL l) : divs l ≠ [] ∧ 1 ≤ gdiv l ∧ gdiv l ≤ 4 := by
  revert l
  intro l h
  have := zjR h
  simp only [List.mem_cons, List.not_mem_nil, or_false] at this
  rcases this with rfl | rfl | rfl | rfl | rfl | rfl | rfl | rfl | rfl | rfl | rfl | rfl | rfl | rfl <;> decide +kernel
theorem zb0 (n : Nat) {l : Cell} (h : OkL l) : zaX U zat (n + 1) 21 [cD l] = some (.val (.int (gdiv l))) := by
  rw [zau U21 rfl]
  have hl' := zbY
  have h3 := h.c
  have h4 := h.d
  have e3 : (l.2 + 1 - 1).toNat = l.2.toNat := by omega
  simp only [ir21]
  simp
  rw [zdI (rs := [.val (.int 1), .val (.int (l.2 + 1))]) (xs := (List.range l.2.toNat).map fun (k : Nat) => (1 + (k : Int))) (f := D.int) (fun d => decide (l.1 % d = 0) && decide (l.2 % d = 0)) D.int]
  · obtain ⟨hne, _⟩ := zeW h
    show zga ((((zaj .maxL [.lst ((divs l).map D.int)])).bind _).bind _) = _
    unfold gdiv
    cases e : divs l with
    | nil => exact absurd e hne
    | cons n r =>
      rw [ztu]
      simp
  · simp
  · rw [zgJ ⟨zcj (by omega) (by omega), zcj (by omega) (by omega)⟩, e3, List.map_map]
    rfl
  · simp; omega
  · intro d hd
    rw [List.mem_map] at hd
    obtain ⟨k, hk, rfl⟩ := hd
    have hp : 0 < 1 + (k : Int) := by omega
    simp [zfn hp]
    by_cases h0 : l.1 % (1 + (k : Int)) = 0
    · simp [h0]; rw [Bool.eq_iff_iff]; simp
    · simp [h0]
  · intro d hd _
    simp
noncomputable def oddS (l : Cell) : Bool := decide ((l.1 / gdiv l + l.2 / gdiv l) % 2 = 1)
noncomputable def hue (l c : Cell) : Int := if oddS l then (c.1 / gdiv l + c.2 / gdiv l) % 2 else c.1 / gdiv l % 2
theorem zgb (n : Nat) {l : Cell} (h : OkL l) : zaX U zat (n + 2) 22 [cD l] = some (.val (.bl (oddS l))) := by
  rw [zau U22 rfl]
  obtain ⟨_, g1, g2⟩ := zeW h
  have hg : 0 < gdiv l ∧ gdiv l < 1073741824 := by omega
  have h2 : (0 : Int) < 2 := by decide
  simp [ir22, zb0 n h, zpK hg, zfn h2]
  unfold oddS
  rw [Bool.eq_iff_iff]; simp
theorem za3 (i : Int) : (absI i = i ∧ 0 ≤ i) ∨ (absI i = -i ∧ i < 0) := by
  unfold absI; split <;> omega
theorem zb8 {l a b : Cell} : near l a b = true ↔ (absI (a.1 - b.1) = l.1 ∧ absI (a.2 - b.2) = l.2 ∧ l.1 ≤ l.2) ∨ (absI (a.1 - b.1) = l.2 ∧ absI (a.2 - b.2) = l.1 ∧ l.1 ≤ l.2) := by
  unfold near
  rw [decide_eq_true_iff]
  obtain ⟨l1, l2⟩ := l
  simp only [Prod.mk.injEq]
  omega
theorem zoO {l : Cell} (h : OkL l) : 1 ≤ gdiv l ∧ l.1 = gdiv l * (l.1 / gdiv l) ∧ l.2 = gdiv l * (l.2 / gdiv l) ∧ (oddS l = false → l.1 / gdiv l % 2 = 1 ∧ l.2 / gdiv l % 2 = 1) :=
  OkL.cases (P := fun l => 1 ≤ gdiv l ∧ l.1 = gdiv l * (l.1 / gdiv l) ∧ l.2 = gdiv l * (l.2 / gdiv l) ∧ (oddS l = false → l.1 / gdiv l % 2 = 1 ∧ l.2 / gdiv l % 2 = 1)) h (by decide +kernel)
theorem zoP {g m x y : Int} (hg : 1 ≤ g) (h : x - y = g * m ∨ x - y = -(g * m)) : (x / g = y / g + m ∨ x / g = y / g - m) ∧ x % g = y % g := by
  rcases h with h | h
  · rw [show x = y + g * m by omega, Int.add_mul_ediv_left _ _ (by omega), Int.add_mul_emod_self_left]
    exact ⟨.inl rfl, rfl⟩
  · rw [show x = y + g * (-m) by rw [Int.mul_neg]; omega, Int.add_mul_ediv_left _ _ (by omega), Int.add_mul_emod_self_left]
    exact ⟨.inr (by omega), rfl⟩
theorem zgM {l a b : Cell} (h : OkL l) (hn : near l a b = true) : ∃ m n : Int, (a.1 / gdiv l = b.1 / gdiv l + m ∨ a.1 / gdiv l = b.1 / gdiv l - m) ∧ (a.2 / gdiv l = b.2 / gdiv l + n ∨ a.2 / gdiv l = b.2 / gdiv l - n) ∧
    a.1 % gdiv l = b.1 % gdiv l ∧ a.2 % gdiv l = b.2 % gdiv l ∧ (oddS l = true → (m + n) % 2 = 1) ∧ (oddS l = false → m % 2 = 1 ∧ n % 2 = 1) := by
  obtain ⟨g1, e1, e2, ev⟩ := zoO h
  have od : oddS l = true → (l.1 / gdiv l + l.2 / gdiv l) % 2 = 1 := fun z => by unfold oddS at z; exact of_decide_eq_true z
  have ha := za3 (a.1 - b.1)
  have hb := za3 (a.2 - b.2)
  rw [zb8] at hn
  generalize gdiv l = g at *
  generalize l.1 / g = m at *
  generalize l.2 / g = n at *
  rw [e1, e2] at hn
  rcases hn with ⟨p, q, _⟩ | ⟨p, q, _⟩
  · obtain ⟨s1, s2⟩ := zoP (x := a.1) (y := b.1) g1 (m := m) (by omega)
    obtain ⟨t1, t2⟩ := zoP (x := a.2) (y := b.2) g1 (m := n) (by omega)
    exact ⟨m, n, s1, t1, s2, t2, od, ev⟩
  · obtain ⟨s1, s2⟩ := zoP (x := a.1) (y := b.1) g1 (m := n) (by omega)
    obtain ⟨t1, t2⟩ := zoP (x := a.2) (y := b.2) g1 (m := m) (by omega)
    exact ⟨n, m, s1, t1, s2, t2, fun z => by have := od z; omega, fun z => ⟨(ev z).2, (ev z).1⟩⟩
theorem zkK {l a b : Cell} (h : OkL l) (hn : near l a b = true) : hue l a ≠ hue l b := by
  obtain ⟨m, n, s, t, _, _, od, ev⟩ := zgM h hn
  unfold hue
  by_cases z : oddS l = true
  · have := od z
    rw [if_pos z, if_pos z]; omega
  · have := (ev (by simpa using z)).1
    rw [if_neg z, if_neg z]; omega
theorem zpR {l : Cell} (c : Cell) : hue l c = 0 ∨ hue l c = 1 := by
  unfold hue; split <;> omega
end LK
set_option linter.all false
namespace LK
open L2.LW
theorem zlA {i : Nat} {body : Env → Option (Fl × Env)} (I : List Cell → Env → Prop) (Q : SV → Env → Prop) {xs : List Cell} {ρ : Env} (h0 : I [] ρ)
    (st : ∀ pre x post ρ, xs = pre ++ x :: post → I pre ρ → ∃ fl ρ', body (ρ.set i (some (.val (cD x)))) = some (fl, ρ') ∧ (((fl = .nx ∨ fl = .ct) ∧ I (pre ++ [x]) ρ') ∨ ∃ r, fl = .rt r ∧ Q r ρ')) :
    ∃ fl ρ', forL i body (xs.map cD) ρ = some (fl, ρ') ∧ ((fl = .nx ∧ I xs ρ') ∨ ∃ r, fl = .rt r ∧ Q r ρ') := by
  have key : ∀ (post pre : List Cell) (ρ : Env), xs = pre ++ post → I pre ρ → ∃ fl ρ', forL i body (post.map cD) ρ = some (fl, ρ') ∧ ((fl = .nx ∧ I xs ρ') ∨ ∃ r, fl = .rt r ∧ Q r ρ') := by
    intro post
    induction post with
    | nil => intro pre ρ e h; exact ⟨_, ρ, rfl, .inl ⟨rfl, by rw [e]; simpa using h⟩⟩
    | cons x post ih =>
      intro pre ρ e h
      obtain ⟨fl, ρ1, e1, e2⟩ := st pre x post ρ e h
      rw [List.map_cons, forL, e1]
      simp only [Option.bind_some]
      rcases e2 with ⟨e2, h1⟩ | ⟨r, rfl, q⟩
      · obtain ⟨fl', ρ', e3, h3⟩ := ih (pre ++ [x]) ρ1 (by simp [e]) h1
        rcases e2 with rfl | rfl <;> exact ⟨fl', ρ', e3, h3⟩
      · exact ⟨_, ρ1, rfl, .inr ⟨r, rfl, q⟩⟩
  exact key xs [] ρ rfl h0
theorem zb1 {i : Nat} {body : Env → Option (Fl × Env)} (I : List Cell → Env → Prop) {xs : List Cell} {ρ : Env} (h0 : I [] ρ)
    (st : ∀ pre x post ρ, xs = pre ++ x :: post → I pre ρ → ∃ fl ρ', body (ρ.set i (some (.val (cD x)))) = some (fl, ρ') ∧ (fl = .nx ∨ fl = .ct) ∧ I (pre ++ [x]) ρ') :
    ∃ ρ', forL i body (xs.map cD) ρ = some (.nx, ρ') ∧ I xs ρ' := by
  obtain ⟨fl, ρ', e, h⟩ := zlA (i := i) (body := body) I (fun _ _ => False) (xs := xs) (ρ := ρ) h0 fun pre x post ρ e h => by
    obtain ⟨fl, ρ', h1, h2, h3⟩ := st pre x post ρ e h
    exact ⟨fl, ρ', h1, .inl ⟨h2, h3⟩⟩
  rcases h with ⟨rfl, h⟩ | ⟨_, _, z⟩
  · exact ⟨ρ', e, h⟩
  · exact z.elim
noncomputable def outS (k : Option (List D)) : Option (Option SV) → Option (List D)
  | some (some (.io d)) => k.map (d :: ·)
  | _ => none
@[simp] theorem zwX {k : Option (List D)} {d : D} : outS k (some (some (.io d))) = k.map (d :: ·) := id rfl
@[simp] theorem zrL {ρ : Env} : zce ρ [] = some [] := by rw [zce]
@[simp] theorem zq4 {ρ : Env} {i : Nat} {r : List Nat} : zce ρ (i :: r) = outS (zce ρ r) ρ[i]? := by
  rw [zce]
  rcases ρ[i]? with _ | _ | (_ | _ | _) <;> rfl
@[simp] theorem zwY {io : List Nat} {r : SV} {ρ : Env} : endA io (some (.rt r, ρ)) = (zce ρ io).map (Ans.ok r) := id rfl
@[simp] theorem zwZ {io : List Nat} {ρ : Env} : endA io (some (.nx, ρ)) = (zce ρ io).map (Ans.ok (.val .non)) := id rfl
noncomputable def tD (tr : List Cell) : D := .dct true (tr.map cD) (tr.map fun _ => .bl true)
@[simp] theorem ztR {tr : List Cell} : zbq (tr.map fun _ => (.bl true : D)) = true := by
  induction tr with
  | nil => simp
  | cons x r ih => simpa using ih
@[simp] theorem zvE {tr : List Cell} : zf7 (tD tr) = true := by simp [tD]
@[simp] theorem ztS {tr : List Cell} : zbO (tD tr) = true := by simp [tD]
@[simp] theorem zxD {c : Cell} {tr : List Cell} : zaj .nin [cD c, tD tr] = some (.val (.bl (!decide (c ∈ tr)))) := by
  simp only [tD, zaj, pNin, zfq, if_true, okBl, zcq]
theorem zq5 {tr : List Cell} {c : Cell} (h : c ∉ tr) : dput true (tr.map cD) (tr.map fun _ => .bl true) (cD c) (.bl true) = tD (tr ++ [c]) := by
  unfold dput
  rw [zcq]
  simp [h, tD]
section
variable (f : List Cell) (l : Cell)
noncomputable def nb (c : Cell) : List Cell := f.filter (near l c)
structure Half (ms : Ms) : Prop where
  nd : ztQ ms
  inF : ∀ x y, get ms x = some y → x ∈ f ∧ y ∈ f ∧ near l x y = true
end
section
variable {f : List Cell} {l : Cell}
theorem zni {c o : Cell} : o ∈ nb f l c ↔ o ∈ f ∧ near l c o = true := by unfold nb; exact List.mem_filter
theorem Half.len {ms : Ms} (h : Half f l ms) : ms.length ≤ f.length := by
  have := zbP (l := ms.map fun (p : Cell × Cell) => p.1) (m := f) h.nd fun x hx => by
    have : (get ms x).isSome = true := by rw [zc1]; simpa using hx
    obtain ⟨y, hy⟩ := Option.isSome_iff_exists.mp this
    exact (h.inF x y hy).1
  simpa using this
@[simp] theorem zw0 {c : Cell} : avOf (.val (cD c)) = some (.e (cD c)) := by simp [cD]
@[simp] theorem zw1 {g : List Cell} : avOf (.val (fD g)) = some (.e (fD g)) := by simp [fD]
structure TrOk (f tr : List Cell) : Prop where
  nd : tr.Nodup
  sub : ∀ x ∈ tr, x ∈ f
theorem TrOk.len {tr : List Cell} (h : TrOk f tr) : tr.length ≤ f.length := zbP h.nd h.sub
theorem TrOk.snoc {tr : List Cell} {o : Cell} (h : TrOk f tr) (ho : o ∈ f) (ht : o ∉ tr) : TrOk f (tr ++ [o]) := by
  refine ⟨?_, fun x hx => ?_⟩
  · rw [List.nodup_append]
    refine ⟨h.nd, by simp, fun a ha b hb e => ?_⟩
    simp at hb; subst hb; subst e; exact ht ha
  · rw [List.mem_append, List.mem_singleton] at hx
    rcases hx with z | rfl
    · exact h.sub x z
    · exact ho
end
end LK
set_option linter.all false
namespace LK
open L2.LW
section
variable {α : Type}
noncomputable def dG (g : α → D) (ms : List (Cell × α)) : D := .dct true (ms.map fun p => cD p.1) (ms.map fun p => g p.2)
noncomputable def getG (ms : List (Cell × α)) (c : Cell) : Option α := (ms.find? fun p => decide (p.1 = c)).map (·.2)
theorem zbD (p : Cell × α) (r : List (Cell × α)) (c : Cell) : getG (p :: r) c = if p.1 = c then some p.2 else getG r c := by
  unfold getG
  rw [List.find?_cons]
  by_cases h : p.1 = c <;> simp [h]
theorem zaJ (c : Cell) : ∀ ms : List (Cell × α), (getG ms c).isSome = decide (c ∈ ms.map (·.1))
  | [] => rfl
  | p :: r => by
    rw [zbD, List.map_cons]
    by_cases h : p.1 = c
    · simp [h]
    · rw [if_neg h, zaJ c r]
      have : ¬ c = p.1 := fun z => h z.symm
      simp [this]
theorem znj (g : α → D) (c : Cell) : ∀ ms : List (Cell × α), dget (ms.map fun p => cD p.1) (ms.map fun p => g p.2) (cD c) = (getG ms c).map g
  | [] => rfl
  | p :: r => by
    have ih := znj g c r
    unfold dget kix at ih ⊢
    rw [List.map_cons, List.map_cons, List.findIdx?_cons, zkJ, zbD]
    by_cases h : p.1 = c
    · simp [h]
    · rw [if_neg h, ← ih]
      simp only [h, decide_false, Bool.false_eq_true, if_false]
      cases (List.findIdx? (fun x => eqD x (cD c)) (r.map fun p => cD p.1)) <;> simp
theorem zfr (ms : List (Cell × α)) : (ms.map fun p => cD p.1) = (ms.map (·.1)).map cD := by rw [List.map_map]; rfl
theorem zgN {g : α → D} {c : Cell} {ms : List (Cell × α)} : zaj .nin [cD c, dG g ms] = some (.val (.bl (!(getG ms c).isSome))) := by
  simp only [dG, zaj, pNin, zfq, if_true, okBl, zfr, zcq, zaJ]
theorem znk {g : α → D} {c : Cell} {ms : List (Cell × α)} {v : α} (h : getG ms c = some v) : zaj .idx [dG g ms, cD c] = some (.val (g v)) := by
  simp only [dG, zaj, pIdx, zfq, if_true, znj, h, Option.map_some]
theorem znl {g : α → D} {ms : List (Cell × α)} {c : Cell} {v : α} (h : getG ms c = none) : dput true (ms.map fun p => cD p.1) (ms.map fun p => g p.2) (cD c) (g v) = dG g (ms ++ [(c, v)]) := by
  unfold dput
  rw [zfr, zcq, ← zaJ, h]
  simp [dG]
theorem zbE {ms : List (Cell × α)} {c x : Cell} {v : α} (h : getG ms c = none) : getG (ms ++ [(c, v)]) x = if x = c then some v else getG ms x := by
  induction ms with
  | nil =>
    show getG ((c, v) :: []) x = _
    rw [zbD]
    by_cases e : c = x
    · subst e; simp
    · have : ¬ x = c := fun z => e z.symm
      rw [if_neg e, if_neg this]
  | cons p r ih =>
    rw [zbD] at h
    split at h
    · cases h
    · rename_i hp
      rw [List.cons_append, zbD, zbD, ih h]
      by_cases e : p.1 = x
      · rw [if_pos e, if_pos e, if_neg (fun z => hp (e.trans z))]
      · rw [if_neg e, if_neg e]
theorem ztT {g : α → D} {ρ : Env} {i : Nat} {ms : List (Cell × α)} {c : Cell} {v : α} (h : getG ms c = none) (hl : ms.length < line) :
    zls ρ i (some (.val (cD c))) (some (.val (g v))) (some (some (.obj true (dG g ms)))) = some (.nx, ρ.set i (some (.obj true (dG g (ms ++ [(c, v)]))))) := by
  rw [dG, zm6]
  simp only [Option.bind_some, zfm, zfq, List.length_map, hl, decide_true, Bool.and_self, if_true, znl h]
end
section
variable (f : List Cell) (l : Cell)
noncomputable def Bk (goal : Cell) : Nat → Cell → Prop
  | 0, c => c = goal
  | k + 1, c => Bk goal k c ∨ (c ∈ f ∧ ∃ p, Bk goal k p ∧ near l c p = true)
noncomputable def Lv (goal : Cell) (k : Nat) (c : Cell) : Prop := Bk f l goal k c ∧ ∀ i, i < k → ¬ Bk f l goal i c
noncomputable abbrev zfs := List (Cell × Option Cell)
noncomputable def oD : Option Cell → D
  | none => .non
  | some c => cD c
structure LOk (goal : Cell) (ms : zfs) : Prop where
  nd : (ms.map (·.1)).Nodup
  sub : ∀ c, (getG ms c).isSome = true → c ∈ f
  root : ∀ c, getG ms c = some none → c = goal
  next : ∀ c p, getG ms c = some (some p) → near l c p = true ∧ ∃ j, Lv f l goal (j + 1) c ∧ Lv f l goal j p ∧ (getG ms p).isSome = true
end
section
variable {f : List Cell} {l : Cell} {goal : Cell}
theorem Bk.mono : ∀ {k m : Nat} {c : Cell}, k ≤ m → Bk f l goal k c → Bk f l goal m c
  | k, 0, c, h, b => by have : k = 0 := by omega
                        subst this; exact b
  | k, m + 1, c, h, b => by
    by_cases e : k = m + 1
    · subst e; exact b
    · exact .inl (Bk.mono (by omega) b)
theorem Bk.inF (hg : goal ∈ f) : ∀ {k : Nat} {c : Cell}, Bk f l goal k c → c ∈ f
  | 0, c, h => by rw [show c = goal from h]; exact hg
  | k + 1, c, h => by
    rcases h with h | h
    · exact Bk.inF hg h
    · exact h.1
theorem Lv.uniq {j k : Nat} {c : Cell} (h : Lv f l goal j c) (h' : Lv f l goal k c) : j = k := by
  rcases Nat.lt_trichotomy j k with z | z | z
  · exact absurd h.1 (h'.2 j z)
  · exact z
  · exact absurd h'.1 (h.2 k z)
theorem Bk.lv {k : Nat} {c : Cell} (h : Bk f l goal k c) : ∃ j, j ≤ k ∧ Lv f l goal j c := by
  induction k with
  | zero => exact ⟨0, Nat.le_refl _, h, fun i hi => by omega⟩
  | succ k ih =>
    by_cases hk : Bk f l goal k c
    · obtain ⟨j, h1, h2⟩ := ih hk
      exact ⟨j, by omega, h2⟩
    · exact ⟨k + 1, Nat.le_refl _, h, fun i hi z => hk (z.mono (by omega))⟩
theorem LOk.len {ms : zfs} (h : LOk f l goal ms) : ms.length ≤ f.length := by
  have := zbP (l := ms.map fun (p : Cell × Option Cell) => p.1) (m := f) h.nd fun x hx => h.sub x (by rw [zaJ]; simpa using hx)
  simpa using this
noncomputable def ltE (f : List Cell) (l goal : Cell) (ms : zfs) (s4 s5 s6 s7 : Option SV) : Env := [some (.val (fD f)), some (.val (cD l)), some (.val (cD goal)), some (.obj true (dG oD ms)), s4, s5, s6, s7]
theorem zq6 (n : Nat) (hf : f.length ≤ 100) {ms : zfs} {fu : List Cell} {s4 : Option SV} {k : Nat} {c o : Cell} (hm : LOk f l goal ms) (hc : Lv f l goal k c) (hcm : (getG ms c).isSome = true) (hk : ∀ x, Bk f l goal k x → (getG ms x).isSome = true) (hof : o ∈ f) (hn : near l c o = true) (hfu : fu.length ≤ 1000) :
    ((getG ms o).isSome = true ∧ exSs (zas U zat n) zat zgG (ltE f l goal ms s4 (some (.obj true (lD fu))) (some (.val (cD c))) (some (.val (cD o)))) = some (.nx, ltE f l goal ms s4 (some (.obj true (lD fu))) (some (.val (cD c))) (some (.val (cD o))))) ∨
    (getG ms o = none ∧ LOk f l goal (ms ++ [(o, some c)]) ∧ Lv f l goal (k + 1) o ∧ exSs (zas U zat n) zat zgG (ltE f l goal ms s4 (some (.obj true (lD fu))) (some (.val (cD c))) (some (.val (cD o)))) =
      some (.nx, ltE f l goal (ms ++ [(o, some c)]) s4 (some (.obj true (lD (fu ++ [o])))) (some (.val (cD c))) (some (.val (cD o))))) := by
  have hl' := zbY
  have hml := hm.len
  cases hg : getG ms o with
  | some v =>
    refine .inl ⟨rfl, ?_⟩
    simp [zgG, ltE, zgN, hg]
  | none =>
    have hlv : Lv f l goal (k + 1) o := ⟨.inr ⟨hof, c, hc.1, by rw [zcM]; exact hn⟩, fun i hi b => by
      have := hk o (b.mono (by omega))
      rw [hg] at this; cases this⟩
    have hno : o ≠ c := fun e => by subst e; rw [hg] at hcm; cases hcm
    refine .inr ⟨rfl, ⟨?_, fun x hx => ?_, fun x hx => ?_, fun x p hx => ?_⟩, hlv, ?_⟩
    · rw [List.map_append, List.nodup_append]
      refine ⟨hm.nd, by simp, fun a ha b hb e => ?_⟩
      simp at hb; subst hb; subst e
      have : (getG ms a).isSome = true := by rw [zaJ]; simpa using ha
      rw [hg] at this; cases this
    · rw [zbE hg] at hx
      split at hx
      · rename_i e; subst e; exact hof
      · exact hm.sub x hx
    · rw [zbE hg] at hx
      split at hx
      · cases hx
      · exact hm.root x hx
    · rw [zbE hg] at hx
      have up : ∀ y, (getG ms y).isSome = true → (getG (ms ++ [(o, some c)]) y).isSome = true := fun y hy => by
        rw [zbE hg]; split
        · rfl
        · exact hy
      split at hx
      · rename_i e
        cases hx; subst e
        exact ⟨by rw [zcM]; exact hn, k, hlv, hc, up _ hcm⟩
      · obtain ⟨h1, j, h2, h3, h4⟩ := hm.next x p hx
        exact ⟨h1, j, h2, h3, up _ h4⟩
    · have e1 : ∀ ρ : Env, zls ρ 3 (some (.val (cD o))) (some (.val (cD c))) (some (some (.obj true (dG oD ms)))) = some (.nx, ρ.set 3 (some (.obj true (dG oD (ms ++ [(o, some c)]))))) := fun ρ => ztT (g := oD) (v := some c) hg (by omega)
      have e2 : ∀ (ρ : Env), appS ρ 5 (some (.val (cD o))) (some (some (.obj true (lD fu)))) = some (.nx, ρ.set 5 (some (.obj true (lD (fu ++ [o]))))) := fun ρ => by
        rw [lD, zeU]
        have : fu.length < line := by omega
        simp only [Option.bind_some, zfm, List.length_map, this, if_true]
        simp [lD]
      simp [zgG, ltE, zgN, hg, e1, e2]
structure Rg (f : List Cell) (l goal : Cell) (k : Nat) (ms0 ms : zfs) (fu : List Cell) : Prop extends LOk f l goal ms where
  old : ∀ x, Bk f l goal k x → (getG ms x).isSome = true
  fu_ : ∀ x, x ∈ fu ↔ (getG ms x).isSome = true ∧ Lv f l goal (k + 1) x
  up : ∀ x, (getG ms x).isSome = true → Bk f l goal (k + 1) x
  nd2 : fu.Nodup
  cnt : ms.length = ms0.length + fu.length
theorem zq7 (n : Nat) (hf : f.length ≤ 100) {ms0 ms : zfs} {fu : List Cell} {s4 s7 : Option SV} {k : Nat} {c : Cell} (h : Rg f l goal k ms0 ms fu) (hc : Lv f l goal k c) (h7 : za5 (some s7) = true) :
    ∃ ms' fu' s7', exSs (zas U zat (n + 3)) zat zkF (ltE f l goal ms s4 (some (.obj true (lD fu))) (some (.val (cD c))) s7) = some (.nx, ltE f l goal ms' s4 (some (.obj true (lD fu'))) (some (.val (cD c))) s7') ∧
      Rg f l goal k ms0 ms' fu' ∧ (∀ o ∈ nb f l c, (getG ms' o).isSome = true) ∧ (∀ x, (getG ms x).isSome = true → (getG ms' x).isSome = true) ∧ za5 (some s7') = true := by
  obtain ⟨ρ', e, ms', fu', s7', rfl, r1, r2, r3, r4⟩ := zb1 (i := 7) (body := exSs (zas U zat (n + 3)) zat zgG)
    (fun pre ρ => ∃ ms' fu' s7', ρ = ltE f l goal ms' s4 (some (.obj true (lD fu'))) (some (.val (cD c))) s7' ∧ Rg f l goal k ms0 ms' fu' ∧ (∀ o ∈ pre, (getG ms' o).isSome = true) ∧ (∀ x, (getG ms x).isSome = true → (getG ms' x).isSome = true) ∧ za5 (some s7') = true)
    (xs := nb f l c) (ρ := ltE f l goal ms s4 (some (.obj true (lD fu))) (some (.val (cD c))) s7) ⟨ms, fu, s7, rfl, h, fun o ho => (by cases ho), fun y hy => hy, h7⟩
    fun pre o post ρ e zz5 => by
      obtain ⟨ms', fu', s7', eρ, r1, r2, r3, r4⟩ := zz5
      subst eρ
      have ho : o ∈ nb f l c := by rw [e]; simp
      have hlen := r1.len
      have hcnt := r1.cnt
      rcases zq6 (n + 3) hf (fu := fu') (s4 := s4) r1.toLOk hc (r1.old c hc.1) r1.old (zni.mp ho).1 (zni.mp ho).2 (by omega) with ⟨q1, e2⟩ | ⟨q1, q2, q3, e2⟩
      · refine ⟨_, _, e2, .inl rfl, ms', fu', _, rfl, r1, fun y hy => ?_, r3, zbk⟩
        rw [List.mem_append, List.mem_singleton] at hy
        rcases hy with z | rfl
        · exact r2 y z
        · exact q1
      · have up : ∀ y, (getG ms' y).isSome = true → (getG (ms' ++ [(o, some c)]) y).isSome = true := fun y hy => by
          rw [zbE q1]; split
          · rfl
          · exact hy
        refine ⟨_, _, e2, .inl rfl, _, _, _, rfl, { q2 with old := fun x hx => up x (r1.old x hx), fu_ := fun x => ?_, up := fun x hx => ?_, nd2 := ?_, cnt := ?_ }, fun y hy => ?_, fun x hx => up x (r3 x hx), zbk⟩
        · rw [List.mem_append, List.mem_singleton, r1.fu_ x, zbE q1]
          by_cases ex : x = o
          · subst ex; simp [q3]
          · simp [ex]
        · rw [zbE q1] at hx
          split at hx
          · rename_i ex; rw [ex]; exact q3.1
          · exact r1.up x hx
        · rw [List.nodup_append]
          refine ⟨r1.nd2, by simp, fun a ha b hb eab => ?_⟩
          simp at hb; subst hb; subst eab
          have := ((r1.fu_ a).mp ha).1
          rw [q1] at this; cases this
        · simp; omega
        · rw [List.mem_append, List.mem_singleton] at hy
          rcases hy with z | rfl
          · exact up y (r2 y z)
          · rw [zbE q1]; simp
  refine ⟨ms', fu', s7', ?_, r1, r2, r3, r4⟩
  have cn := zhn n l c (f := f) (by omega : f.length ≤ 1000)
  simp only [zkF, zfl, zek]
  simp [ltE, cn, h7]
  rw [← nb, ← ltE, e]
  simp [ltE]
theorem zoQ (n : Nat) (hf : f.length ≤ 100) {ms : zfs} {ed : List Cell} {s5 s6 s7 : Option SV} {k : Nat} (hm : LOk f l goal ms) (hk : ∀ x, Bk f l goal k x ↔ (getG ms x).isSome = true) (hed : ∀ x, x ∈ ed ↔ Lv f l goal k x)
    {s4 : Option SV} (hs4 : s4 = some (.val (lD ed)) ∨ s4 = some (.obj true (lD ed))) (h5 : za5 (some s5) = true) (h6 : za5 (some s6) = true) (h7 : za5 (some s7) = true) :
    ∃ ms' fu s5' s6' s7', exSs (zas U zat (n + 3)) zat zkG (ltE f l goal ms s4 s5 s6 s7) = some (.nx, ltE f l goal ms' (some (.val (lD fu))) s5' s6' s7') ∧
      LOk f l goal ms' ∧ (∀ x, Bk f l goal (k + 1) x ↔ (getG ms' x).isSome = true) ∧ (∀ x, x ∈ fu ↔ Lv f l goal (k + 1) x) ∧ ms'.length = ms.length + fu.length ∧ za5 (some s5') = true ∧ za5 (some s6') = true ∧ za5 (some s7') = true := by
  have f0 : ∀ x, x ∈ ([] : List Cell) ↔ (getG ms x).isSome = true ∧ Lv f l goal (k + 1) x := fun x => by
    constructor
    · intro z; cases z
    · rintro ⟨z1, z2⟩; exact absurd ((hk x).mpr z1) (z2.2 k (Nat.lt_succ_self k))
  have R0 : Rg f l goal k ms ms [] := { hm with old := fun x => (hk x).mp, fu_ := f0, up := fun x hx => .inl ((hk x).mpr hx), nd2 := by simp, cnt := by simp }
  obtain ⟨ρ', e, ms', fu, s6', s7', rfl, r1, r2, r3, r4⟩ := zb1 (i := 6) (body := exSs (zas U zat (n + 3)) zat zkF)
    (fun pre ρ => ∃ ms' fu s6' s7', ρ = ltE f l goal ms' (some (.val (lD ed))) (some (.obj true (lD fu))) s6' s7' ∧ Rg f l goal k ms ms' fu ∧ (∀ x ∈ pre, ∀ o ∈ nb f l x, (getG ms' o).isSome = true) ∧ za5 (some s6') = true ∧ za5 (some s7') = true)
    (xs := ed) (ρ := ltE f l goal ms (some (.val (lD ed))) (some (.obj true (lD []))) s6 s7) ⟨ms, [], s6, s7, rfl, R0, fun o ho => (by cases ho), h6, h7⟩
    fun pre x post ρ e zz5 => by
      obtain ⟨ms', fu, s6', s7', eρ, r1, r2, r3, r4⟩ := zz5
      subst eρ
      have hx : x ∈ ed := by rw [e]; simp
      obtain ⟨ms2, fu2, s72, e2, q1, q2, q3, q4⟩ := zq7 n hf (s4 := some (.val (lD ed))) (s7 := s7') r1 ((hed x).mp hx) r4
      refine ⟨_, _, e2, .inl rfl, ms2, fu2, _, s72, rfl, q1, fun y hy o ho => ?_, zbk, q4⟩
      rw [List.mem_append, List.mem_singleton] at hy
      rcases hy with z | rfl
      · exact q3 o (r2 y z o ho)
      · exact q2 o ho
  have full : ∀ x, Bk f l goal (k + 1) x ↔ (getG ms' x).isSome = true := fun x => by
    refine ⟨fun b => ?_, r1.up x⟩
    rcases b with b | ⟨hxf, p, hp, hn⟩
    · exact r1.old x b
    · by_cases hb : Bk f l goal k x
      · exact r1.old x hb
      · obtain ⟨j, hj, hlv⟩ := hp.lv
        have : j = k := by
          by_cases e : j = k
          · exact e
          · exact absurd (Bk.mono (k := j + 1) (by omega) (.inr ⟨hxf, p, hlv.1, hn⟩)) hb
        subst this
        exact r2 p ((hed p).mpr hlv) x (zni.mpr ⟨hxf, by rw [zcM]; exact hn⟩)
  refine ⟨ms', fu, some (.val (lD fu)), s6', s7', ?_, r1.toLOk, full, fun x => ?_, r1.cnt, zbk, r3, r4⟩
  · simp only [zkG]
    rcases hs4 with rfl | rfl
    · simp [ltE, h5, h6, zeV]
      rw [show ze5 (lD ed) = some (ed.map cD) from rfl, show D.lst [] = lD [] from rfl]
      simp only [Option.map_some, Option.bind_some]
      rw [← ltE, e]
      simp [ltE]
    · simp [ltE, h5, h6, zeV]
      rw [show frzS [some (SV.val (fD f)), some (SV.val (cD l)), some (SV.val (cD goal)), some (SV.obj true (dG oD ms)), some (SV.obj true (lD ed)), some (SV.obj true (D.lst [])), s6, s7] 4 (some (some (SV.obj true (lD ed)))) = some (ed.map cD, ltE f l goal ms (some (.val (lD ed))) (some (.obj true (lD []))) s6 s7) from rfl]
      simp only [Option.map_some, Option.bind_some]
      rw [e]
      simp [ltE]
  · rw [r1.fu_ x]
    exact ⟨fun z => z.2, fun z => ⟨(full x).mp z.1, z⟩⟩
structure LFull (f : List Cell) (l goal : Cell) (ms : zfs) : Prop extends LOk f l goal ms where
  all : ∀ x, (getG ms x).isSome = true ↔ ∃ k, Bk f l goal k x
theorem zft (n : Nat) (hf : f.length ≤ 100) (hg : goal ∈ f) : ∃ ms, LFull f l goal ms ∧ zaX U zat (n + 4) 20 [fD f, cD l, cD goal] = some (.obj true (dG oD ms)) := by
  have ms0 : LOk f l goal [(goal, none)] := by
    refine ⟨by simp, fun c hc => ?_, fun c hc => ?_, fun c p hc => ?_⟩
    · rw [zaJ] at hc; simp at hc; subst hc; exact hg
    · rw [zbD] at hc; split at hc
      · rename_i z; exact z.symm
      · cases hc
    · rw [zbD] at hc; split at hc
      · cases hc
      · cases hc
  obtain ⟨ρ', e, ms, s4, s5, s6, s7, rfl, h1, h2⟩ := zc0 (test := evT (zaX U zat (n + 3)) (.prim .gt (.cons (.prim .len (.cons (.var 4) .nil)) (.cons (.int 0) .nil)))) (body := exSs (zas U zat (n + 3)) zat zkG)
    (fun m ρ => ∃ k ms ed s4 s5 s6 s7, ρ = ltE f l goal ms s4 s5 s6 s7 ∧ (s4 = some (.val (lD ed)) ∨ s4 = some (.obj true (lD ed))) ∧ LOk f l goal ms ∧ (∀ x, Bk f l goal k x ↔ (getG ms x).isSome = true) ∧ (∀ x, x ∈ ed ↔ Lv f l goal k x) ∧ (za5 (some s5) = true ∧ za5 (some s6) = true ∧ za5 (some s7) = true) ∧ m = 2 * (f.length - ms.length) + (if ed = [] then 0 else 1))
    (fun ρ => ∃ ms s4 s5 s6 s7, ρ = ltE f l goal ms s4 s5 s6 s7 ∧ LFull f l goal ms ∧ True)
    (m := 2 * (f.length - 1) + 1) (n := zat) (ρ := ltE f l goal [(goal, none)] (some (.obj true (lD [goal]))) none none none) (by unfold zat; omega)
    ⟨0, _, [goal], _, none, none, none, rfl, .inr rfl, ms0, fun x => by
        rw [zaJ]; simp [Bk], fun x => by
        rw [List.mem_singleton]; exact ⟨fun z => ⟨z, fun i hi => by omega⟩, fun z => z.1⟩, ⟨rfl, rfl, rfl⟩, by simp⟩
    fun m ρ zz2 => by
      obtain ⟨k, ms, ed, s4, s5, s6, s7, eρ, hs4, q1, q2, q3, q4, q5⟩ := zz2
      subst eρ
      have ht : evT (zaX U zat (n + 3)) (.prim .gt (.cons (.prim .len (.cons (.var 4) .nil)) (.cons (.int 0) .nil))) (ltE f l goal ms s4 s5 s6 s7) = some (decide (0 < ed.length)) := by
        rcases hs4 with rfl | rfl
        · simp [ltE, lD]
        · simp [ltE, lD]
      by_cases hed : ed = []
      · subst hed
        refine .inl ⟨by rw [ht]; rfl, ms, s4, s5, s6, s7, rfl, { q1 with all := fun x => ⟨fun z => ⟨k, (q2 x).mpr z⟩, fun ⟨j, hj⟩ => ?_⟩ }, trivial⟩
        have none_ : ∀ j x, Bk f l goal j x → Bk f l goal k x := by
          intro j
          induction j with
          | zero => intro x hx; exact hx.mono (Nat.zero_le k)
          | succ j ih =>
            intro x hx
            rcases hx with hx | ⟨hxf, p, hp, hn⟩
            · exact ih x hx
            · obtain ⟨i, hi, hlv⟩ := (ih p hp).lv
              by_cases e : i = k
              · subst e; exact absurd ((q3 p).mpr hlv) (by simp)
              · exact Bk.mono (k := i + 1) (by omega) (.inr ⟨hxf, p, hlv.1, hn⟩)
        exact (q2 x).mp (none_ j x hj)
      · have hpos : 0 < ed.length := List.length_pos_iff.mpr hed
        refine .inr ⟨by rw [ht]; simp [hpos], ?_⟩
        obtain ⟨ms', fu, s5', s6', s7', e2, r1, r2, r3, r4, r5⟩ := zoQ n hf q1 q2 q3 hs4 q4.1 q4.2.1 q4.2.2
        have hl1 := r1.len
        refine ⟨_, _, 2 * (f.length - ms'.length) + (if fu = [] then 0 else 1), e2, .inl rfl, ?_, k + 1, ms', fu, _, s5', s6', s7', rfl, .inl rfl, r1, r2, r3, r5, rfl⟩
        rw [q5, if_neg hed]
        cases fu with
        | nil => simp at r4 ⊢; omega
        | cons a b => simp at r4 ⊢; omega
  refine ⟨ms, h1, ?_⟩
  rw [zau U20 rfl]
  simp only [ir20]
  simp [zfj]
  rw [show D.dct true [cD goal] [D.non] = dG oD [(goal, none)] from rfl, show D.lst [cD goal] = lD [goal] from rfl, ← ltE, e]
  simp [ltE]
end
end LK
set_option linter.all false
namespace LK
open L2.LW
section
variable {f : List Cell} {l : Cell} {goal : Cell}
structure Way (f : List Cell) (l one goal : Cell) (w : List Cell) : Prop where
  head : w.head? = some one
  last : w.getLast? = some goal
  mem : ∀ c ∈ w, c ∈ f
  step : ∀ i (h : i + 1 < w.length), near l w[i] w[i + 1] = true
theorem Way.one {one : Cell} (h : one ∈ f) : Way f l one one [one] := ⟨rfl, rfl, fun c hc => by simp at hc; subst hc; exact h, fun i hi => by simp at hi⟩
theorem Way.snoc {one x y : Cell} {w : List Cell} (h : Way f l one x w) (hy : y ∈ f) (hn : near l x y = true) : Way f l one y (w ++ [y]) := by
  have hw : w ≠ [] := fun e => by have := h.head; rw [e] at this; cases this
  refine ⟨?_, by simp, fun c hc => ?_, fun i hi => ?_⟩
  · rw [List.head?_append, h.head]; rfl
  · rw [List.mem_append, List.mem_singleton] at hc
    rcases hc with z | rfl
    · exact h.mem c z
    · exact hy
  · rw [List.length_append, List.length_singleton] at hi
    by_cases e : i + 1 < w.length
    · rw [List.getElem_append_left (by omega), List.getElem_append_left e]
      exact h.step i e
    · have e1 : i + 1 = w.length := by omega
      rw [List.getElem_append_left (by omega), List.getElem_append_right (by omega)]
      have hl := h.last
      rw [List.getLast?_eq_getElem?] at hl
      have : w[i]'(by omega) = x := by
        rw [List.getElem?_eq_some_iff] at hl
        obtain ⟨h1, h2⟩ := hl
        rw [← h2]
        congr 1
        omega
      rw [this]
      simpa using hn
theorem zoR {w : List Cell} {x : Cell} (h : w.getLast? = some x) : zaj .idx [lD w, .int (-1)] = some (.val (cD x)) := by
  rw [List.getLast?_eq_getElem?, List.getElem?_eq_some_iff] at h
  obtain ⟨h1, h2⟩ := h
  rw [lD, zm8]
  unfold atI ixN
  have hp : 0 < w.length := by omega
  rw [if_neg (by omega), if_pos (by rw [List.length_map]; omega)]
  simp only [Option.bind_some]
  rw [show (-1 + ((w.map cD).length : Int)).toNat = w.length - 1 by rw [List.length_map]; omega]
  rw [List.getElem?_map, List.getElem?_eq_getElem h1, h2]
  rfl
@[simp] theorem zvF {c : Cell} : ze6 (cD c) = false := id rfl
noncomputable def awE (f : List Cell) (l one goal : Cell) (ms : zfs) (w : List Cell) : Env := [some (.val (fD f)), some (.val (cD l)), some (.val (cD one)), some (.val (cD goal)), some (.obj true (dG oD ms)), some (.obj true (lD w))]
theorem LFull.goal_ (h : LFull f l goal ms) : getG ms goal = some none := by
  obtain ⟨v, hv⟩ := Option.isSome_iff_exists.mp ((h.all goal).mpr ⟨0, rfl⟩)
  cases v with
  | none => exact hv
  | some p =>
    obtain ⟨_, j, h1, _⟩ := h.next goal p hv
    exact absurd rfl (h1.2 0 (by omega))
theorem zoS (n : Nat) (hf : OkF f) (hl : OkL l) {one : Cell} (ho : one ∈ f) (hg : goal ∈ f) :
    (∃ j w, Lv f l goal j one ∧ Way f l one goal w ∧ w.length = j + 1 ∧ j ≤ 24 ∧ zaX U zat (n + 5) 26 [fD f, cD l, cD one, cD goal] = some (.obj true (lD w))) ∨
    ((∀ j, ¬ Bk f l goal j one) ∧ zaX U zat (n + 5) 26 [fD f, cD l, cD one, cD goal] = some (.val .non)) := by
  have hlen := hf.len
  have hl' := zbY
  obtain ⟨ms, hm, e⟩ := zft n (f := f) (l := l) (goal := goal) (by omega) hg
  have c1 := zgL n hf
  have c2 := zbZ (n + 1) hl
  have c3 := zcL (n + 1) (hf.cells one ho) ho
  have c4 := zcL (n + 1) (hf.cells goal hg) hg
  cases hin : getG ms one with
  | none =>
    refine .inr ⟨fun j hj => ?_, ?_⟩
    · have := (hm.all one).mpr ⟨j, hj⟩
      rw [hin] at this; cases this
    · rw [zau U26 rfl]
      simp [ir26, c1, c2, c3, c4, e, zgN, hin]
  | some v0 =>
    left
    obtain ⟨k, hk⟩ := (hm.all one).mp (by rw [hin]; rfl)
    obtain ⟨J, _, hJ⟩ := hk.lv
    have key : ∀ j x, Lv f l goal j x → (∃ v, getG ms x = some v) ∧ (j = 0 → getG ms x = some none) ∧ (∀ i, j = i + 1 → ∃ p, getG ms x = some (some p) ∧ Lv f l goal i p ∧ near l x p = true ∧ p ∈ f) := fun j x hx => by
      obtain ⟨v, hv⟩ := Option.isSome_iff_exists.mp ((hm.all x).mpr ⟨j, hx.1⟩)
      refine ⟨⟨v, hv⟩, fun h0 => ?_, fun i hi => ?_⟩
      · subst h0
        rw [show x = goal from hx.1]
        exact hm.goal_
      · cases v with
        | none =>
          have := hm.root x hv
          subst this
          exact absurd rfl (hx.2 0 (by omega))
        | some p =>
          obtain ⟨h1, j', h2, h3, h4⟩ := hm.next x p hv
          have := hx.uniq h2
          have : j' = i := by omega
          subst this
          exact ⟨p, hv, h3, h1, hm.sub p h4⟩
    have bound : ∀ j x, Lv f l goal j x → ∃ ws : List Cell, ws.length = j + 1 ∧ ws.Nodup ∧ (∀ y ∈ ws, y ∈ f ∧ ∃ i, i ≤ j ∧ Lv f l goal i y) := by
      intro j
      induction j with
      | zero => intro x hx; exact ⟨[x], rfl, by simp, fun y hy => by simp at hy; subst hy; exact ⟨hx.1.inF hg, 0, Nat.le_refl _, hx⟩⟩
      | succ j ih =>
        intro x hx
        obtain ⟨p, _, h2, _, _⟩ := (key (j + 1) x hx).2.2 j rfl
        obtain ⟨ws, w1, w2, w3⟩ := ih p h2
        refine ⟨x :: ws, by simp [w1], ?_, fun y hy => ?_⟩
        · rw [List.nodup_cons]
          refine ⟨fun z => ?_, w2⟩
          obtain ⟨_, i, hi, hl2⟩ := w3 x z
          have := hx.uniq hl2
          omega
        · rcases List.mem_cons.mp hy with rfl | hy
          · exact ⟨hx.1.inF hg, j + 1, Nat.le_refl _, hx⟩
          · obtain ⟨q1, i, q2, q3⟩ := w3 y hy
            exact ⟨q1, i, by omega, q3⟩
    have hJ24 : J ≤ 24 := by
      obtain ⟨ws, w1, w2, w3⟩ := bound J one hJ
      have := zbP w2 fun y hy => (w3 y hy).1
      omega
    obtain ⟨ρ', ex, w, rfl, hw, hwl⟩ := zc0 (test := evT (zaX U zat (n + 4)) (.prim .notN (.cons (.prim .idx (.cons (.var 4) (.cons (.prim .idx (.cons (.var 5) (.cons (.prim .neg (.cons (.int 1) .nil)) .nil))) .nil))) .nil))) (body := exSs (zas U zat (n + 4)) zat zna)
      (fun j ρ => ∃ w x, ρ = awE f l one goal ms w ∧ Way f l one x w ∧ Lv f l goal j x ∧ w.length + j = J + 1)
      (fun ρ => ∃ w, ρ = awE f l one goal ms w ∧ Way f l one goal w ∧ w.length = J + 1)
      (m := J) (n := zat) (ρ := awE f l one goal ms [one]) (by unfold zat; omega) ⟨[one], one, rfl, .one ho, hJ, by simp; omega⟩
      fun j ρ zz2 => by
        obtain ⟨w, x, eρ, hw, hx, hwl⟩ := zz2
        subst eρ
        have li := zoR hw.last
        cases j with
        | zero =>
          have hg0 := (key 0 x hx).2.1 rfl
          refine .inl ⟨?_, w, rfl, ?_, by omega⟩
          · simp [awE, li, znk hg0, oD]
          · rw [show goal = x from (show x = goal from hx.1).symm]; exact hw
        | succ j =>
          obtain ⟨p, h1, h2, h3, h4⟩ := (key (j + 1) x hx).2.2 j rfl
          refine .inr ⟨?_, .nx, awE f l one goal ms (w ++ [p]), j, ?_, .inl rfl, Nat.lt_succ_self j, w ++ [p], p, rfl, hw.snoc h4 h3, h2, by simp; omega⟩
          · simp [awE, li, znk h1, oD]
          · have e2 : ∀ (ρ : Env), appS ρ 5 (some (.val (cD p))) (some (some (.obj true (lD w)))) = some (.nx, ρ.set 5 (some (.obj true (lD (w ++ [p]))))) := fun ρ => by
              rw [lD, zeU]
              have : w.length < line := by omega
              simp only [Option.bind_some, zfm, List.length_map, this, if_true]
              simp [lD]
            simp [zna, awE, li, znk h1, oD, e2]
    refine ⟨J, w, hJ, hw, hwl, hJ24, ?_⟩
    rw [zau U26 rfl]
    simp only [ir26]
    simp [c1, c2, c3, c4, e, zgN, hin, zfj]
    rw [show D.lst [cD one] = lD [one] from rfl, ← awE, ex]
    simp [awE]
theorem znm (n : Nat) (hf : OkF f) (hl : OkL l) {one : Cell} (ho : one ∈ f) (hg : goal ∈ f) :
    (∃ j : Nat, Lv f l goal j one ∧ j ≤ 24 ∧ zaX U zat (n + 6) 27 [fD f, cD l, cD one, cD goal] = some (.val (.int j))) ∨
    ((∀ j, ¬ Bk f l goal j one) ∧ zaX U zat (n + 6) 27 [fD f, cD l, cD one, cD goal] = some (.val .non)) := by
  rcases zoS n hf hl ho hg with ⟨j, w, h1, h2, h3, h4, h5⟩ | ⟨h1, h2⟩
  · refine .inl ⟨j, h1, h4, ?_⟩
    rw [zau U27 rfl]
    simp [ir27, h5, lD]
    omega
  · refine .inr ⟨h1, ?_⟩
    rw [zau U27 rfl]
    simp [ir27, h2]
end
end LK
set_option linter.all false
namespace LK
open L2.LW
noncomputable def sig (s t : Int) (w : Bool) (p : Cell) : Cell := if w then (s * p.2, t * p.1) else (s * p.1, t * p.2)
noncomputable def zbm (v : Cell) : Cell := fold v.1 v.2
noncomputable def one (s : Int) : Prop := s = 1 ∨ s = -1
theorem zkL {c : Prop} [Decidable c] : one (if c then -1 else 1) := by unfold one; split <;> omega
theorem zeX {s : Int} (hs : one s) (a : Int) : absI (s * a) = absI a := by
  have a1 := za3 a
  rcases hs with rfl | rfl
  · simp
  · have a2 := za3 (-1 * a); omega
theorem zhp {l p q : Cell} {s t : Int} {w : Bool} (hs : one s) (ht : one t) (h : near l p q = true) : near l (sig s t w p) (sig s t w q) = true := by
  rw [zb8] at h ⊢
  cases w <;> simp only [sig, if_true, Bool.false_eq_true, if_false, ← Int.mul_sub, zeX hs, zeX ht]
  · exact h
  · omega
theorem zkM {p : Cell} {s t : Int} {w : Bool} (hs : one s) (ht : one t) : zbm (sig s t w p) = zbm p := by
  unfold zbm fold
  cases w <;> simp only [sig, if_true, Bool.false_eq_true, if_false, zeX hs, zeX ht, Prod.mk.injEq]
  omega
theorem zjS (p : Cell) : ∃ s t w, one s ∧ one t ∧ zbm p = sig s t w p := by
  have a1 := za3 p.1
  have a2 := za3 p.2
  refine ⟨if (if absI p.1 ≤ absI p.2 then p.1 else p.2) < 0 then -1 else 1, if (if absI p.1 ≤ absI p.2 then p.2 else p.1) < 0 then -1 else 1, !decide (absI p.1 ≤ absI p.2), zkL, zkL, ?_⟩
  unfold zbm fold sig
  by_cases h : absI p.1 ≤ absI p.2
  · simp only [h, if_true, decide_true, Bool.not_true, Bool.false_eq_true, if_false, Prod.mk.injEq]
    constructor
    · split <;> omega
    · split <;> omega
  · simp only [h, if_false, decide_false, Bool.not_false, if_true, Prod.mk.injEq]
    constructor
    · split <;> omega
    · split <;> omega
theorem zoT (p : Cell) : ∃ s t w, one s ∧ one t ∧ p = sig s t w (zbm p) := by
  have a1 := za3 p.1
  have a2 := za3 p.2
  refine ⟨if p.1 < 0 then -1 else 1, if p.2 < 0 then -1 else 1, !decide (absI p.1 ≤ absI p.2), zkL, zkL, ?_⟩
  unfold zbm fold sig
  refine Prod.ext ?_ ?_
  · by_cases h : absI p.1 ≤ absI p.2
    · simp only [h, decide_true, Bool.not_true, Bool.false_eq_true, if_false]; split <;> omega
    · simp only [h, decide_false, Bool.not_false, if_true]; split <;> omega
  · by_cases h : absI p.1 ≤ absI p.2
    · simp only [h, decide_true, Bool.not_true, Bool.false_eq_true, if_false]; split <;> omega
    · simp only [h, decide_false, Bool.not_false, if_true]; split <;> omega
theorem zfu (p : Cell) : zbm (zbm p) = zbm p := by
  obtain ⟨s, t, w, h1, h2, e⟩ := zjS p
  rw [e, zkM h1 h2, e]
section
variable (l : Cell)
noncomputable def Bd : Nat → Cell → Prop
  | 0, c => c = (0, 0)
  | k + 1, c => Bd k c ∨ ∃ p, Bd k p ∧ near l p c = true
noncomputable def Lw (k : Nat) (c : Cell) : Prop := Bd l k c ∧ ∀ i, i < k → ¬ Bd l i c
end
section
variable {l : Cell}
theorem Bd.mono : ∀ {k m : Nat} {c : Cell}, k ≤ m → Bd l k c → Bd l m c
  | k, 0, c, h, b => by have : k = 0 := by omega
                        subst this; exact b
  | k, m + 1, c, h, b => by
    by_cases e : k = m + 1
    · subst e; exact b
    · exact .inl (Bd.mono (by omega) b)
theorem Lw.uniq {j k : Nat} {c : Cell} (h : Lw l j c) (h' : Lw l k c) : j = k := by
  rcases Nat.lt_trichotomy j k with z | z | z
  · exact absurd h.1 (h'.2 j z)
  · exact z
  · exact absurd h'.1 (h.2 k z)
theorem Bd.lw {k : Nat} {c : Cell} (h : Bd l k c) : ∃ j, j ≤ k ∧ Lw l j c := by
  induction k with
  | zero => exact ⟨0, Nat.le_refl _, h, fun i hi => by omega⟩
  | succ k ih =>
    by_cases hk : Bd l k c
    · obtain ⟨j, h1, h2⟩ := ih hk
      exact ⟨j, by omega, h2⟩
    · exact ⟨k + 1, Nat.le_refl _, h, fun i hi z => hk (z.mono (by omega))⟩
theorem Bd.sig {s t : Int} {w : Bool} (hs : one s) (ht : one t) : ∀ {k : Nat} {c : Cell}, Bd l k c → Bd l k (LK.sig s t w c)
  | 0, c, h => by
    rw [show c = (0, 0) from h]
    show LK.sig s t w (0, 0) = (0, 0)
    cases w <;> simp [LK.sig]
  | k + 1, c, h => by
    rcases h with h | ⟨p, h1, h2⟩
    · exact .inl (Bd.sig hs ht h)
    · exact .inr ⟨_, Bd.sig hs ht h1, zhp hs ht h2⟩
theorem Bd.fold {k : Nat} {c : Cell} : Bd l k (zbm c) ↔ Bd l k c := by
  constructor
  · intro h
    obtain ⟨s, t, w, h1, h2, e⟩ := zoT c
    rw [e]; exact h.sig h1 h2
  · intro h
    obtain ⟨s, t, w, h1, h2, e⟩ := zjS c
    rw [e]; exact h.sig h1 h2
theorem Lw.fold {k : Nat} {c : Cell} : Lw l k (zbm c) ↔ Lw l k c := by
  unfold Lw; simp only [Bd.fold]
theorem Lw.same {k : Nat} {c d : Cell} (h : Lw l k c) (e : zbm d = zbm c) : Lw l k d := by
  rw [← Lw.fold, e, Lw.fold]; exact h
theorem zoU {u p v : Cell} (h : near l p v = true) : near l (u.1 + p.1, u.2 + p.2) (u.1 + v.1, u.2 + v.2) = true := by
  rw [zb8] at h ⊢
  have e1 : u.1 + p.1 - (u.1 + v.1) = p.1 - v.1 := by omega
  have e2 : u.2 + p.2 - (u.2 + v.2) = p.2 - v.2 := by omega
  simp only [e1, e2]; exact h
theorem Bd.add {k : Nat} {u : Cell} (h : Bd l k u) : ∀ {m : Nat} {v : Cell}, Bd l m v → Bd l (k + m) (u.1 + v.1, u.2 + v.2)
  | 0, v, b => by
    rw [show v = (0, 0) from b]
    simpa using h
  | m + 1, v, b => by
    rcases b with b | ⟨p, h1, h2⟩
    · exact .inl (Bd.add h b)
    · exact .inr ⟨_, Bd.add h h1, zoU h2⟩
theorem Bd.mul {k : Nat} {u : Cell} (h : Bd l k u) : ∀ m : Nat, Bd l (m * k) ((m : Int) * u.1, (m : Int) * u.2)
  | 0 => by rw [Nat.zero_mul]; show _ = _; simp
  | m + 1 => by
    have := (Bd.mul h m).add h
    rw [show (m + 1) * k = m * k + k from Nat.succ_mul m k]
    have e1 : ((m + 1 : Nat) : Int) * u.1 = (m : Int) * u.1 + u.1 := by rw [Int.natCast_add]; simp [Int.add_mul]
    have e2 : ((m + 1 : Nat) : Int) * u.2 = (m : Int) * u.2 + u.2 := by rw [Int.natCast_add]; simp [Int.add_mul]
    rw [e1, e2]; exact this
theorem Bd.mulI {k : Nat} {u : Cell} (h : Bd l k u) (a : Int) : Bd l (a.natAbs * k) (a * u.1, a * u.2) := by
  rcases Int.natAbs_eq a with e | e
  · have := h.mul a.natAbs
    rwa [← e] at this
  · have := (h.sig (s := -1) (t := -1) (w := false) (.inr rfl) (.inr rfl)).mul a.natAbs
    simp only [LK.sig, Bool.false_eq_true, if_false] at this
    have e1 : ∀ x : Int, (a.natAbs : Int) * (-1 * x) = a * x := fun x => by
      conv => rhs; rw [e]
      simp [Int.neg_mul, Int.mul_neg]
    rwa [e1, e1] at this
noncomputable def sumP : List Cell → Cell
  | [] => (0, 0)
  | p :: r => ((sumP r).1 + p.1, (sumP r).2 + p.2)
theorem Bd.way : ∀ (ps : List Cell), (∀ p ∈ ps, near l (0, 0) p = true) → Bd l ps.length (sumP ps)
  | [], _ => rfl
  | p :: r, h => (Bd.way r fun q hq => h q (List.mem_cons_of_mem _ hq)).add (m := 1) (.inr ⟨(0, 0), rfl, h p List.mem_cons_self⟩)
theorem Bd.far (hl : OkL l) : ∀ {k : Nat} {c : Cell}, Bd l k c → absI c.1 ≤ k * l.2 ∧ absI c.2 ≤ k * l.2 ∧ absI c.1 + absI c.2 ≤ k * (l.1 + l.2)
  | 0, c, h => by
    rw [show c = (0, 0) from h]; simp [absI]
  | k + 1, c, h => by
    obtain ⟨h1, h2, h3, h4⟩ := hl
    have e1 : ((k + 1 : Nat) : Int) * l.2 = k * l.2 + l.2 := by rw [Int.natCast_add]; simp [Int.add_mul]
    have e2 : ((k + 1 : Nat) : Int) * (l.1 + l.2) = k * (l.1 + l.2) + (l.1 + l.2) := by rw [Int.natCast_add]; simp [Int.add_mul]
    rw [e1, e2]
    rcases h with h | ⟨p, b, hn⟩
    · have := Bd.far ⟨h1, h2, h3, h4⟩ h
      omega
    · have := Bd.far ⟨h1, h2, h3, h4⟩ b
      rw [zb8] at hn
      have a1 := za3 (p.1 - c.1)
      have a2 := za3 (p.2 - c.2)
      have a3 := za3 p.1
      have a4 := za3 p.2
      have a5 := za3 c.1
      have a6 := za3 c.2
      omega
theorem Lw.prev {k : Nat} {c : Cell} (h : Lw l (k + 1) c) : ∃ p, Lw l k p ∧ near l p c = true := by
  rcases h.1 with z | ⟨p, h1, h2⟩
  · exact absurd z (h.2 k (by omega))
  · refine ⟨p, ⟨h1, fun i hi b => h.2 (i + 1) (by omega) (.inr ⟨p, b, h2⟩)⟩, h2⟩
theorem Lw.hue (hl : OkL l) : ∀ {k : Nat} {c : Cell}, Lw l k c → LK.hue l c = (k : Int) % 2
  | 0, c, h => by
    rw [show c = (0, 0) from h.1]
    unfold LK.hue; simp
  | k + 1, c, h => by
    obtain ⟨p, h1, h2⟩ := h.prev
    have e := Lw.hue hl h1
    have ne := zkK hl h2
    have := zpR (l := l) c
    have := zpR (l := l) p
    omega
theorem Lw.near {j k : Nat} {c d : Cell} (hl : OkL l) (h : Lw l j c) (h' : Lw l k d) (hn : near l c d = true) : j = k + 1 ∨ k = j + 1 := by
  have h1 : k ≤ j + 1 := by
    obtain ⟨i, hi, h2⟩ := Bd.lw (l := l) (k := j + 1) (c := d) (.inr ⟨c, h.1, hn⟩)
    have := h2.uniq h'; omega
  have h2 : j ≤ k + 1 := by
    obtain ⟨i, hi, h2⟩ := Bd.lw (l := l) (k := k + 1) (c := c) (.inr ⟨d, h'.1, by rw [zcM]; exact hn⟩)
    have := h2.uniq h; omega
  have := zkK hl hn
  rw [h.hue hl, h'.hue hl] at this
  omega
end
end LK
set_option linter.all false
namespace LK
open L2.LW
noncomputable def canR (l v : Cell) : Bool := (decide (v.1 % gdiv l = 0) && decide (v.2 % gdiv l = 0)) && (oddS l || decide ((v.1 / gdiv l + v.2 / gdiv l) % 2 = 0))
theorem Bd.ways {l v : Cell} {s : Nat} (ps : List Cell) (h : ∀ p ∈ ps, near l (0, 0) p = true) (e1 : ps.length = s) (e2 : sumP ps = v) : Bd l s v := by
  subst e1; subst e2; exact Bd.way ps h
theorem znn {l : Cell} (hl : OkL l) : ∃ s : Nat, s ≤ 7 ∧ (l.1 = 0 ∨ l.1 = l.2 → s = 1) ∧ (oddS l = true → Bd l s (gdiv l, 0)) ∧ (oddS l = false → Bd l s (gdiv l, gdiv l)) := by
  have hm := zjR hl
  simp only [List.mem_cons, List.not_mem_nil, or_false] at hm
  rcases hm with rfl | rfl | rfl | rfl | rfl | rfl | rfl | rfl | rfl | rfl | rfl | rfl | rfl | rfl
  · exact ⟨1, by decide, fun z => by revert z; decide, fun _ => Bd.ways (l := (0, 1)) [(1, 0)] (by decide) rfl (by decide +kernel), fun z => absurd z (by decide +kernel)⟩
  · exact ⟨1, by decide, fun z => by revert z; decide, fun z => absurd z (by decide +kernel), fun _ => Bd.ways (l := (1, 1)) [(1, 1)] (by decide) rfl (by decide +kernel)⟩
  · exact ⟨1, by decide, fun z => by revert z; decide, fun _ => Bd.ways (l := (0, 2)) [(2, 0)] (by decide) rfl (by decide +kernel), fun z => absurd z (by decide +kernel)⟩
  · exact ⟨3, by decide, fun z => by revert z; decide, fun _ => Bd.ways (l := (1, 2)) [(2, -1), (1, 2), (-2, -1)] (by decide) rfl (by decide +kernel), fun z => absurd z (by decide +kernel)⟩
  · exact ⟨1, by decide, fun z => by revert z; decide, fun z => absurd z (by decide +kernel), fun _ => Bd.ways (l := (2, 2)) [(2, 2)] (by decide) rfl (by decide +kernel)⟩
  · exact ⟨1, by decide, fun z => by revert z; decide, fun _ => Bd.ways (l := (0, 3)) [(3, 0)] (by decide) rfl (by decide +kernel), fun z => absurd z (by decide +kernel)⟩
  · exact ⟨3, by decide, fun z => by revert z; decide, fun z => absurd z (by decide +kernel), fun _ => Bd.ways (l := (1, 3)) [(3, -1), (1, 3), (-3, -1)] (by decide) rfl (by decide +kernel)⟩
  · exact ⟨5, by decide, fun z => by revert z; decide, fun _ => Bd.ways (l := (2, 3)) [(3, -2), (2, 3), (2, 3), (-3, -2), (-3, -2)] (by decide) rfl (by decide +kernel), fun z => absurd z (by decide +kernel)⟩
  · exact ⟨1, by decide, fun z => by revert z; decide, fun z => absurd z (by decide +kernel), fun _ => Bd.ways (l := (3, 3)) [(3, 3)] (by decide) rfl (by decide +kernel)⟩
  · exact ⟨1, by decide, fun z => by revert z; decide, fun _ => Bd.ways (l := (0, 4)) [(4, 0)] (by decide) rfl (by decide +kernel), fun z => absurd z (by decide +kernel)⟩
  · exact ⟨5, by decide, fun z => by revert z; decide, fun _ => Bd.ways (l := (1, 4)) [(4, -1), (4, -1), (1, 4), (-4, -1), (-4, -1)] (by decide) rfl (by decide +kernel), fun z => absurd z (by decide +kernel)⟩
  · exact ⟨3, by decide, fun z => by revert z; decide, fun _ => Bd.ways (l := (2, 4)) [(4, -2), (2, 4), (-4, -2)] (by decide) rfl (by decide +kernel), fun z => absurd z (by decide +kernel)⟩
  · exact ⟨7, by decide, fun z => by revert z; decide, fun _ => Bd.ways (l := (3, 4)) [(4, -3), (3, 4), (3, 4), (3, 4), (-4, -3), (-4, -3), (-4, -3)] (by decide) rfl (by decide +kernel), fun z => absurd z (by decide +kernel)⟩
  · exact ⟨1, by decide, fun z => by revert z; decide, fun z => absurd z (by decide +kernel), fun _ => Bd.ways (l := (4, 4)) [(4, 4)] (by decide) rfl (by decide +kernel)⟩
theorem zoV {l p c : Cell} (hl : OkL l) (hn : near l p c = true) (hp : canR l p = true) : canR l c = true := by
  obtain ⟨m, n, s, t, s2, t2, od, ev⟩ := zgM hl hn
  unfold canR at hp ⊢
  rw [← s2, ← t2]
  rw [Bool.and_eq_true] at hp ⊢
  refine ⟨hp.1, ?_⟩
  have h2 := hp.2
  by_cases z : oddS l = true
  · rw [z]; rfl
  · have := ev (by simpa using z)
    rw [show oddS l = false by simpa using z, Bool.false_or, decide_eq_true_iff] at h2 ⊢
    omega
theorem Bd.can {l : Cell} (hl : OkL l) : ∀ {k : Nat} {c : Cell}, Bd l k c → canR l c = true
  | 0, c, h => by
    rw [show c = (0, 0) from h]
    unfold canR; simp
  | k + 1, c, h => by
    rcases h with h | ⟨p, h1, h2⟩
    · exact h.can hl
    · exact zoV hl h2 (h1.can hl)
theorem zno {l v : Cell} (hl : OkL l) (ho : oddS l = true) (h1 : v.1 % gdiv l = 0) (h2 : v.2 % gdiv l = 0) : ∃ s : Nat, s ≤ 7 ∧ (l.1 = 0 ∨ l.1 = l.2 → s = 1) ∧ Bd l ((v.1 / gdiv l).natAbs * s + (v.2 / gdiv l).natAbs * s) v := by
  obtain ⟨s, hs, hs1, b, _⟩ := znn hl
  have b := b ho
  have b2 := b.sig (s := 1) (t := 1) (w := true) (.inl rfl) (.inl rfl)
  have := (b.mulI (v.1 / gdiv l)).add (b2.mulI (v.2 / gdiv l))
  simp only [sig, if_true] at this
  have e1 : v.1 / gdiv l * gdiv l = v.1 := Int.ediv_mul_cancel (Int.dvd_of_emod_eq_zero h1)
  have e2 : v.2 / gdiv l * gdiv l = v.2 := Int.ediv_mul_cancel (Int.dvd_of_emod_eq_zero h2)
  simp [e1, e2] at this
  exact ⟨s, hs, hs1, this⟩
theorem zlB {l v : Cell} (hl : OkL l) (ho : oddS l = false) (h1 : v.1 % gdiv l = 0) (h2 : v.2 % gdiv l = 0) (h3 : (v.1 / gdiv l + v.2 / gdiv l) % 2 = 0) :
    ∃ s : Nat, s ≤ 7 ∧ (l.1 = 0 ∨ l.1 = l.2 → s = 1) ∧ Bd l (((v.1 / gdiv l + v.2 / gdiv l) / 2).natAbs * s + ((v.1 / gdiv l - v.2 / gdiv l) / 2).natAbs * s) v := by
  obtain ⟨s, hs, hs1, _, b⟩ := znn hl
  have b := b ho
  have b2 := b.sig (s := 1) (t := -1) (w := false) (.inl rfl) (.inr rfl)
  have e1 : v.1 / gdiv l * gdiv l = v.1 := Int.ediv_mul_cancel (Int.dvd_of_emod_eq_zero h1)
  have e2 : v.2 / gdiv l * gdiv l = v.2 := Int.ediv_mul_cancel (Int.dvd_of_emod_eq_zero h2)
  have := (b.mulI ((v.1 / gdiv l + v.2 / gdiv l) / 2)).add (b2.mulI ((v.1 / gdiv l - v.2 / gdiv l) / 2))
  simp only [sig, Bool.false_eq_true, if_false, Int.one_mul, Int.neg_mul, Int.mul_neg] at this
  generalize ex : (v.1 / gdiv l + v.2 / gdiv l) / 2 = x at *
  generalize ey : (v.1 / gdiv l - v.2 / gdiv l) / 2 = y at *
  have f1 : x * gdiv l + y * gdiv l = v.1 := by rw [← Int.add_mul, show x + y = v.1 / gdiv l by omega]; exact e1
  have f2 : x * gdiv l + -(y * gdiv l) = v.2 := by rw [← Int.sub_eq_add_neg, ← Int.sub_mul, show x - y = v.2 / gdiv l by omega]; exact e2
  rw [f1, f2] at this
  exact ⟨s, hs, hs1, this⟩
noncomputable def zjT (v : Cell) : Prop := -12 ≤ v.1 ∧ v.1 ≤ 12 ∧ -12 ≤ v.2 ∧ v.2 ≤ 12
theorem ziE {a g : Int} (h : -12 ≤ a ∧ a ≤ 12) (hg : 1 ≤ g ∧ g ≤ 4) (hm : a % g = 0) : -12 ≤ a / g ∧ a / g ≤ 12 := by
  have : g = 1 ∨ g = 2 ∨ g = 3 ∨ g = 4 := by omega
  rcases this with rfl | rfl | rfl | rfl <;> omega
theorem zlC {l v : Cell} (hl : OkL l) (hv : zjT v) (hc : canR l v = true) : ∃ k, k ≤ 168 ∧ Lw l k v := by
  unfold canR at hc
  rw [Bool.and_eq_true, Bool.and_eq_true, decide_eq_true_iff, decide_eq_true_iff, Bool.or_eq_true, decide_eq_true_iff] at hc
  obtain ⟨⟨h1, h2⟩, h3⟩ := hc
  obtain ⟨_, g1, g2⟩ := zeW hl
  have d1 := ziE ⟨hv.1, hv.2.1⟩ ⟨g1, g2⟩ h1
  have d2 := ziE ⟨hv.2.2.1, hv.2.2.2⟩ ⟨g1, g2⟩ h2
  have fin : ∀ {a b s : Nat}, a + b ≤ 24 → s ≤ 7 → Bd l (a * s + b * s) v → ∃ k, k ≤ 168 ∧ Lw l k v := fun {a b s} hab hs b_ => by
    obtain ⟨j, hj, h⟩ := b_.lw
    have : (a + b) * s ≤ 24 * 7 := Nat.mul_le_mul hab hs
    rw [Nat.add_mul] at this
    exact ⟨j, by omega, h⟩
  cases ho : oddS l with
  | true =>
    obtain ⟨s, hs, _, b⟩ := zno hl ho h1 h2
    exact fin (by omega) hs b
  | false =>
    rw [ho] at h3
    obtain ⟨s, hs, _, b⟩ := zlB hl ho h1 h2 (by simpa using h3)
    exact fin (by omega) hs b
theorem zdL (n : Nat) {i : Int} (h : -12 ≤ i ∧ i ≤ 12) : zaX U zat (n + 2) 53 [.int i] = some (.val .non) := by
  rw [zau U53 rfl]
  simp [ir53, zcp, h.1, h.2]
theorem zeu (n : Nat) {l v : Cell} (hl : OkL l) (hv : zjT v) : zaX U zat (n + 4) 54 [cD l, .int v.1, .int v.2] = some (.val (.bl (canR l v))) := by
  rw [zau U54 rfl]
  obtain ⟨_, g1, g2⟩ := zeW hl
  have hg : 0 < gdiv l ∧ gdiv l < 1073741824 := by omega
  have h2 : (0 : Int) < 2 := by decide
  unfold canR
  by_cases e1 : v.1 % gdiv l = 0 <;> by_cases e2 : v.2 % gdiv l = 0 <;> cases eo : oddS l <;>
  simp [ir54, zbZ n hl, zdL (n + 1) ⟨hv.1, hv.2.1⟩, zdL (n + 1) ⟨hv.2.2.1, hv.2.2.2⟩, zb0 (n + 2) hl, zgb (n + 1) hl, zpK hg, zfn hg.1, zfn h2, e1, e2, eo]
  rw [Bool.eq_iff_iff]; simp
noncomputable def zeJ (l c : Cell) : List Cell := [fold (c.1 + -l.1) (c.2 + -l.2), fold (c.1 + -l.1) (c.2 + l.2), fold (c.1 + l.1) (c.2 + -l.2), fold (c.1 + l.1) (c.2 + l.2),
  fold (c.1 + -l.2) (c.2 + -l.1), fold (c.1 + -l.2) (c.2 + l.1), fold (c.1 + l.2) (c.2 + -l.1), fold (c.1 + l.2) (c.2 + l.1)]
theorem znp {l c o : Cell} (hl : OkL l) (h : o ∈ zeJ l c) : ∃ v, o = zbm v ∧ near l c v = true := by
  obtain ⟨h1, h2, h3, h4⟩ := hl
  unfold zeJ at h
  simp only [List.mem_cons, List.not_mem_nil, or_false] at h
  have key : ∀ x y, o = fold (c.1 + x) (c.2 + y) → (absI x = l.1 ∧ absI y = l.2 ∨ absI x = l.2 ∧ absI y = l.1) → ∃ v, o = zbm v ∧ near l c v = true := fun x y e h => by
    refine ⟨(c.1 + x, c.2 + y), e, ?_⟩
    rw [zb8]
    have a1 := za3 x
    have a2 := za3 y
    have a3 := za3 (c.1 - (c.1 + x))
    have a4 := za3 (c.2 - (c.2 + y))
    simp only
    omega
  have p1 : absI l.1 = l.1 := by unfold absI; split <;> omega
  have p2 : absI l.2 = l.2 := by unfold absI; split <;> omega
  have p3 : absI (-l.1) = l.1 := by unfold absI; split <;> omega
  have p4 : absI (-l.2) = l.2 := by unfold absI; split <;> omega
  rcases h with h | h | h | h | h | h | h | h
  · exact key _ _ h (.inl ⟨p3, p4⟩)
  · exact key _ _ h (.inl ⟨p3, p2⟩)
  · exact key _ _ h (.inl ⟨p1, p4⟩)
  · exact key _ _ h (.inl ⟨p1, p2⟩)
  · exact key _ _ h (.inr ⟨p4, p3⟩)
  · exact key _ _ h (.inr ⟨p4, p1⟩)
  · exact key _ _ h (.inr ⟨p2, p3⟩)
  · exact key _ _ h (.inr ⟨p2, p1⟩)
theorem znq {l c v : Cell} (h : near l c v = true) : zbm v ∈ zeJ l c := by
  rw [zb8] at h
  have a3 := za3 (c.1 - v.1)
  have a4 := za3 (c.2 - v.2)
  have key : ∀ x y, v.1 = c.1 + x → v.2 = c.2 + y → zbm v = fold (c.1 + x) (c.2 + y) := fun x y e1 e2 => by rw [← e1, ← e2]; rfl
  unfold zeJ
  simp only [List.mem_cons, List.not_mem_nil, or_false]
  rcases h with ⟨h1, h2, _⟩ | ⟨h1, h2, _⟩ <;> rcases a3 with ⟨a3, _⟩ | ⟨a3, _⟩ <;> rcases a4 with ⟨a4, _⟩ | ⟨a4, _⟩
  · exact .inl (key _ _ (by omega) (by omega))
  · exact .inr (.inl (key _ _ (by omega) (by omega)))
  · exact .inr (.inr (.inl (key _ _ (by omega) (by omega))))
  · exact .inr (.inr (.inr (.inl (key _ _ (by omega) (by omega)))))
  · exact .inr (.inr (.inr (.inr (.inl (key _ _ (by omega) (by omega))))))
  · exact .inr (.inr (.inr (.inr (.inr (.inl (key _ _ (by omega) (by omega)))))))
  · exact .inr (.inr (.inr (.inr (.inr (.inr (.inl (key _ _ (by omega) (by omega))))))))
  · exact .inr (.inr (.inr (.inr (.inr (.inr (.inr (key _ _ (by omega) (by omega))))))))
theorem zjU (n : Nat) (l c : Cell) : zaX U zat (n + 2) 55 [cD l, cD c] = some (.obj true (lD (zeJ l c))) := by
  rw [zau U55 rfl]
  have hl' := zbY
  have hl0 : (10 : Nat) < line := by omega
  simp only [ir55]
  simp [zek, show D.tup [.int l.2, .int l.1] = cD (l.2, l.1) from rfl]
  simp [forL, zpP, zpO, zpN, zek, zfo, hl0, show ∀ k, k < 10 → k < line from fun k hk => by omega]
  rfl
end LK
set_option linter.all false
namespace LK
open L2.LW
noncomputable def box (m : Nat) : List Cell := (List.range (m + 1)).flatMap fun (i : Nat) => (List.range (m + 1)).map fun (j : Nat) => ((i : Int), (j : Int))
theorem zq8 (m : Nat) : (box m).length = (m + 1) * (m + 1) := by
  unfold box
  rw [List.length_flatMap]
  simp [List.map_const']
theorem zq9 {m : Nat} {c : Cell} (h : 0 ≤ c.1 ∧ c.1 ≤ m ∧ 0 ≤ c.2 ∧ c.2 ≤ m) : c ∈ box m := by
  unfold box
  rw [List.mem_flatMap]
  refine ⟨c.1.toNat, by rw [List.mem_range]; omega, ?_⟩
  rw [List.mem_map]
  refine ⟨c.2.toNat, by rw [List.mem_range]; omega, Prod.ext ?_ ?_⟩
  · show ((c.1.toNat : Nat) : Int) = c.1; omega
  · show ((c.2.toNat : Nat) : Int) = c.2; omega
theorem few {l : Cell} (hl : OkL l) {k : Nat} (hk : k ≤ 200) {tr : List Cell} (nd : tr.Nodup) (h : ∀ x ∈ tr, zbm x = x ∧ Bd l k x) : tr.length ≤ 1000000 := by
  have := zbP (l := tr) (m := box 800) nd fun x hx => by
    obtain ⟨e, b⟩ := h x hx
    have h4 := hl.d
    have f := b.far hl
    have a1 := za3 x.1
    have a2 := za3 x.2
    have hk4 : (k : Int) * l.2 ≤ 200 * 4 := Int.mul_le_mul (by omega) h4 (by have := hl.c; omega) (by decide)
    have e1 : x.1 = min (absI x.1) (absI x.2) := by conv => lhs; rw [← e]
                                                    rfl
    have e2 : x.2 = max (absI x.1) (absI x.2) := by conv => lhs; rw [← e]
                                                    rfl
    exact zq9 (by omega)
  rw [zq8] at this
  omega
noncomputable def nrE (l : Cell) (ri tr fu : List Cell) (s4 s5 : Option SV) : Env := [some (.val (cD l)), some (.val (lD ri)), some (.io (tD tr)), some (.obj true (lD fu)), s4, s5]
structure Rw (l : Cell) (k : Nat) (tr fu : List Cell) : Prop where
  nd : tr.Nodup
  old : ∀ x, zbm x = x → Bd l k x → x ∈ tr
  new : ∀ x ∈ tr, zbm x = x ∧ Bd l (k + 1) x
  fu_ : ∀ x, x ∈ fu ↔ x ∈ tr ∧ Lw l (k + 1) x
  nd2 : fu.Nodup
theorem zra (n : Nat) {l : Cell} (hl : OkL l) {k : Nat} (hk : k ≤ 199) {ri tr fu : List Cell} {c o : Cell} {s4 : Option SV} (h : Rw l k tr fu) (hc : Bd l k c) (ho : o ∈ zeJ l c) :
    ∃ tr' fu', exSs (zas U zat n) zat zix (nrE l ri tr fu s4 (some (.val (cD o)))) = some (.nx, nrE l ri tr' fu' s4 (some (.val (cD o)))) ∧ Rw l k tr' fu' ∧ o ∈ tr' ∧ ∀ x ∈ tr, x ∈ tr' := by
  have hl' : (10000000 : Nat) ≤ line := by decide
  have h1 := few hl (k := k + 1) (by omega) h.nd h.new
  have h2 := zbP h.nd2 fun x hx => ((h.fu_ x).mp hx).1
  by_cases ht : o ∈ tr
  · refine ⟨tr, fu, ?_, h, ht, fun x hx => hx⟩
    simp [zix, nrE, ht]
  · obtain ⟨v, e, hn⟩ := znp hl ho
    have hf : zbm o = o := by rw [e, zfu]
    have hb : Bd l (k + 1) o := by rw [e, Bd.fold]; exact .inr ⟨c, hc, hn⟩
    have hw : Lw l (k + 1) o := ⟨hb, fun i hi b => ht (h.old o hf (b.mono (by omega)))⟩
    refine ⟨tr ++ [o], fu ++ [o], ?_, ⟨?_, ?_, ?_, ?_, ?_⟩, by simp, fun x hx => by simp [hx]⟩
    · have e1 : ∀ ρ : Env, zls ρ 2 (some (.val (cD o))) (some (.val (.bl true))) (some (some (.io (tD tr)))) = some (.nx, ρ.set 2 (some (.io (tD (tr ++ [o]))))) := fun ρ => by
        have : tr.length < line := by omega
        rw [tD, zoD]
        simp only [Option.bind_some, zfm, zfq, List.length_map, this, decide_true, Bool.and_self, if_true, zq5 ht]
      have e2 : ∀ (ρ : Env), appS ρ 3 (some (.val (cD o))) (some (some (.obj true (lD fu)))) = some (.nx, ρ.set 3 (some (.obj true (lD (fu ++ [o]))))) := fun ρ => by
        rw [lD, zeU]
        have : fu.length < line := by omega
        simp only [Option.bind_some, zfm, List.length_map, this, if_true]
        simp [lD]
      simp [zix, nrE, ht, e1, e2]
    · rw [List.nodup_append]
      refine ⟨h.nd, by simp, fun a ha b hb e => ?_⟩
      simp at hb; exact ht (by rw [← hb, ← e]; exact ha)
    · intro x hx b; simp [h.old x hx b]
    · intro x hx
      rw [List.mem_append, List.mem_singleton] at hx
      rcases hx with hx | rfl
      · exact h.new x hx
      · exact ⟨hf, hb⟩
    · intro x
      rw [List.mem_append, List.mem_append, List.mem_singleton, h.fu_ x]
      constructor
      · rintro (⟨z1, z2⟩ | rfl)
        · exact ⟨.inl z1, z2⟩
        · exact ⟨.inr rfl, hw⟩
      · rintro ⟨z1 | z1, z2⟩
        · exact .inl ⟨z1, z2⟩
        · exact .inr z1
    · rw [List.nodup_append]
      refine ⟨h.nd2, by simp, fun a ha b hb e => ?_⟩
      simp at hb; exact ht (by rw [← hb, ← e]; exact ((h.fu_ a).mp ha).1)
theorem zrb (n : Nat) {l : Cell} (hl : OkL l) {k : Nat} (hk : k ≤ 199) {ri tr fu : List Cell} {c : Cell} {s5 : Option SV} (h : Rw l k tr fu) (hc : Bd l k c) (h5 : za5 (some s5) = true) :
    ∃ tr' fu' s5', exSs (zas U zat (n + 2)) zat zkH (nrE l ri tr fu (some (.val (cD c))) s5) = some (.nx, nrE l ri tr' fu' (some (.val (cD c))) s5') ∧ Rw l k tr' fu' ∧ (∀ o ∈ zeJ l c, o ∈ tr') ∧ (∀ x ∈ tr, x ∈ tr') ∧ za5 (some s5') = true := by
  obtain ⟨ρ', e, tr', fu', s5', rfl, r1, r2, r3, r4⟩ := zb1 (i := 5) (body := exSs (zas U zat (n + 2)) zat zix)
    (fun pre ρ => ∃ tr' fu' s5', ρ = nrE l ri tr' fu' (some (.val (cD c))) s5' ∧ Rw l k tr' fu' ∧ (∀ o ∈ pre, o ∈ tr') ∧ (∀ x ∈ tr, x ∈ tr') ∧ za5 (some s5') = true)
    (xs := zeJ l c) (ρ := nrE l ri tr fu (some (.val (cD c))) s5) ⟨tr, fu, s5, rfl, h, fun o ho => (by cases ho), fun x hx => hx, h5⟩
    fun pre o post ρ e zz5 => by
      obtain ⟨tr', fu', s5', eρ, r1, r2, r3, r4⟩ := zz5
      subst eρ
      have ho : o ∈ zeJ l c := by rw [e]; simp
      obtain ⟨tr2, fu2, e2, q1, q2, q3⟩ := zra (n + 2) hl hk (ri := ri) (s4 := some (.val (cD c))) r1 hc ho
      refine ⟨_, _, e2, .inl rfl, tr2, fu2, _, rfl, q1, fun y hy => ?_, fun x hx => q3 x (r3 x hx), zbk⟩
      rw [List.mem_append, List.mem_singleton] at hy
      rcases hy with z | rfl
      · exact q3 y (r2 y z)
      · exact q2
  refine ⟨tr', fu', s5', ?_, r1, r2, r3, r4⟩
  have ld := zjU n l c
  simp only [zkH, zfl, zek]
  simp [nrE, ld, h5]
  rw [show zaH false [SV.obj true (lD (zeJ l c))] = some ((zeJ l c).map cD) from rfl, ← nrE]
  simp only [Option.bind_some]
  rw [e]
  simp [nrE]
structure Rk (l : Cell) (k : Nat) (tr ri : List Cell) : Prop where
  nd : tr.Nodup
  tr_ : ∀ x, x ∈ tr ↔ zbm x = x ∧ Bd l k x
  ri_ : ∀ x, x ∈ ri ↔ zbm x = x ∧ Lw l k x
theorem ziF (n : Nat) {l : Cell} (hl : OkL l) {k : Nat} (hk : k ≤ 199) {ri tr : List Cell} (h : Rk l k tr ri) :
    ∃ tr' ri', zas U zat (n + 3) 56 [cD l, lD ri, tD tr] = some (.ok (.obj true (lD ri')) [tD tr']) ∧ Rk l (k + 1) tr' ri' := by
  have R0 : Rw l k tr [] := ⟨h.nd, fun x hx b => (h.tr_ x).mpr ⟨hx, b⟩, fun x hx => ⟨((h.tr_ x).mp hx).1, .inl ((h.tr_ x).mp hx).2⟩, fun x => ⟨fun z => (by cases z), fun z => absurd ((h.tr_ x).mp z.1).2 (z.2.2 k (by omega))⟩, by simp⟩
  obtain ⟨ρ', e, tr', fu, s4, s5, rfl, r1, r2, r3, r4⟩ := zb1 (i := 4) (body := exSs (zas U zat (n + 2)) zat zkH)
    (fun pre ρ => ∃ tr' fu s4 s5, ρ = nrE l ri tr' fu s4 s5 ∧ Rw l k tr' fu ∧ (∀ x ∈ pre, ∀ o ∈ zeJ l x, o ∈ tr') ∧ za5 (some s4) = true ∧ za5 (some s5) = true)
    (xs := ri) (ρ := nrE l ri tr [] none none) ⟨tr, [], none, none, rfl, R0, fun x hx => (by cases hx), rfl, rfl⟩
    fun pre x post ρ e zz5 => by
      obtain ⟨tr', fu, s4, s5, eρ, r1, r2, r3, r4⟩ := zz5
      subst eρ
      have hx : x ∈ ri := by rw [e]; simp
      obtain ⟨tr2, fu2, s52, e2, q1, q2, q3, q4⟩ := zrb n hl hk (ri := ri) (s5 := s5) r1 ((h.ri_ x).mp hx).2.1 r4
      refine ⟨_, _, e2, .inl rfl, tr2, fu2, _, s52, rfl, q1, fun y hy o ho => ?_, zbk, q4⟩
      rw [List.mem_append, List.mem_singleton] at hy
      rcases hy with z | rfl
      · exact q3 o (r2 y z o ho)
      · exact q2 o ho
  have full : ∀ x, zbm x = x → Bd l (k + 1) x → x ∈ tr' := fun x hx b => by
    rcases b with b | ⟨p, hp, hn⟩
    · exact r1.old x hx b
    · obtain ⟨s, t, w, hs, ht, ep⟩ := zjS p
      have hn2 := zhp (w := w) hs ht hn
      rw [← ep] at hn2
      by_cases hb : Bd l k x
      · exact r1.old x hx hb
      · have hp2 : Lw l k (zbm p) := ⟨Bd.fold.mpr hp, fun i hi z => hb (Bd.mono (k := i + 1) (by omega) (.inr ⟨p, Bd.fold.mp z, hn⟩))⟩
        have := r2 (zbm p) ((h.ri_ _).mpr ⟨zfu p, hp2⟩) _ (znq hn2)
        rwa [zkM hs ht, hx] at this
  refine ⟨tr', fu, ?_, ⟨r1.nd, fun x => ⟨r1.new x, fun z => full x z.1 z.2⟩, fun x => ?_⟩⟩
  · rw [zlv U56 rfl]
    simp only [ir56]
    rw [show zdb [2] 0 [cD l, lD ri, tD tr] ++ List.replicate (6 - 3) none = [some (.val (cD l)), some (.val (lD ri)), some (.io (tD tr)), none, none, none] from rfl]
    simp [zeV]
    rw [show ze5 (lD ri) = some (ri.map cD) from rfl, show D.lst [] = lD [] from rfl]
    simp only [Option.map_some, Option.bind_some]
    rw [← nrE, e]
    simp [nrE]
  · rw [r1.fu_ x]
    exact ⟨fun z => ⟨(r1.new x z.1).1, z.2⟩, fun z => ⟨full x z.1 z.2.1, z.2⟩⟩
noncomputable def ffE (l v g : Cell) (s4 : Option SV) (tr : List Cell) (k : Nat) : Env := [some (.val (cD l)), some (.val (.int v.1)), some (.val (.int v.2)), some (.val (cD g)), s4, some (.obj true (tD tr)), some (.val (.int (k : Int)))]
theorem zgc (n : Nat) {l v : Cell} (hl : OkL l) (hv : zjT v) (h : canR l v = false) : zaX U zat (n + 5) 57 [cD l, .int v.1, .int v.2] = some (.val .non) := by
  rw [zau U57 rfl]
  simp [ir57, zeu n hl hv, h]
theorem zgd (n : Nat) {l v : Cell} (hl : OkL l) (hv : zjT v) {K : Nat} (hK : K ≤ 168) (h : Lw l K v) : zaX U zat (n + 5) 57 [cD l, .int v.1, .int v.2] = some (.val (.int K)) := by
  have hc := h.1.can hl
  have R0 : Rk l 0 [(0, 0)] [(0, 0)] := by
    refine ⟨by simp, fun x => ?_, fun x => ?_⟩
    · rw [List.mem_singleton]
      constructor
      · rintro rfl; exact ⟨by decide, rfl⟩
      · rintro ⟨_, z⟩; exact z
    · rw [List.mem_singleton]
      constructor
      · rintro rfl; exact ⟨by decide, rfl, fun i hi => by omega⟩
      · rintro ⟨_, z, _⟩; exact z
  obtain ⟨ρ', e, tr, s4, rfl⟩ := zc0 (test := evT (zaX U zat (n + 4)) (.prim .nin (.cons (.var 3) (.cons (.var 5) .nil)))) (body := exSs (zas U zat (n + 4)) zat zkI)
    (fun m ρ => ∃ k tr ri s4, ρ = ffE l v (zbm v) s4 tr k ∧ (s4 = some (.val (lD ri)) ∨ s4 = some (.obj true (lD ri))) ∧ Rk l k tr ri ∧ k ≤ K ∧ m = K - k)
    (fun ρ => ∃ tr s4, ρ = ffE l v (zbm v) s4 tr K)
    (m := K) (n := zat) (ρ := ffE l v (zbm v) (some (.obj true (lD [(0, 0)]))) [(0, 0)] 0) (by unfold zat; omega)
    ⟨0, [(0, 0)], [(0, 0)], _, rfl, .inr rfl, R0, by omega, by omega⟩
    fun m ρ zz2 => by
      obtain ⟨k, tr, ri, s4, eρ, hs4, r, hk, hm⟩ := zz2
      subst eρ
      have ht : evT (zaX U zat (n + 4)) (.prim .nin (.cons (.var 3) (.cons (.var 5) .nil))) (ffE l v (zbm v) s4 tr k) = some (!decide (zbm v ∈ tr)) := by
        simp [ffE]
      by_cases hg : zbm v ∈ tr
      · have hb := Bd.fold.mp ((r.tr_ _).mp hg).2
        have : k = K := by
          by_cases z : k < K
          · exact absurd hb (h.2 k z)
          · omega
        subst this
        exact .inl ⟨by rw [ht]; simp [hg], tr, s4, rfl⟩
      · have hlt : k < K := by
          by_cases z : k = K
          · subst z; exact absurd ((r.tr_ _).mpr ⟨zfu v, Bd.fold.mpr h.1⟩) hg
          · omega
        obtain ⟨tr', ri', e1, r'⟩ := ziF (n + 1) hl (k := k) (by omega) r
        refine .inr ⟨by rw [ht]; simp [hg], .nx, ffE l v (zbm v) (some (.val (lD ri'))) tr' (k + 1), K - (k + 1), ?_, .inl rfl, by omega, k + 1, tr', ri', _, rfl, .inl rfl, r', by omega, rfl⟩
        have ev : ∀ o : Bool, avOf (.obj o (lD ri)) = some (.l (ri.map cD)) := fun o => by rw [lD, zoH]; simp
        have ev2 : avOf (.val (lD ri)) = some (.l (ri.map cD)) := by rw [lD, zoG]; simp
        have e1' : zas U zat (n + 4) 56 [cD l, D.lst (ri.map cD), tD tr] = some (.ok (.obj true (lD ri')) [tD tr']) := e1
        have pl : zbO (lD ri') = true := by simp [lD]
        have ek : ((k + 1 : Nat) : Int) = (k : Int) + 1 := by omega
        rcases hs4 with rfl | rfl
        · simp [zkI, ffE, ev2, e1', pl]
        · simp [zkI, ffE, ev, e1', pl]
  rw [zau U57 rfl]
  simp only [ir57]
  simp [zeu n hl hv, hc, zfo, zfj, show zbH true (D.tup [D.int 0, D.int 0]) = true from rfl]
  rw [show D.dct true [D.tup [D.int 0, D.int 0]] [D.bl true] = tD [(0, 0)] from rfl, show D.lst [D.tup [D.int 0, D.int 0]] = lD [(0, 0)] from rfl]
  rw [show ([some (SV.val (cD l)), some (SV.val (D.int v.1)), some (SV.val (D.int v.2)), some (SV.val (cD (fold v.1 v.2))), some (SV.obj true (lD [(0, 0)])), some (SV.obj true (tD [(0, 0)])), some (SV.val (D.int 0))] : Env) = ffE l v (zbm v) (some (.obj true (lD [(0, 0)]))) [(0, 0)] 0 from rfl, e]
  simp [ffE]
end LK
set_option linter.all false
namespace LK
open L2.LW
theorem ziG {α : Type} {R : α → α → Prop} (ir : ∀ a, ¬ R a a) (as : ∀ a b, R a b → R b a → False) : ∀ {l m : List α}, l.Pairwise R → m.Pairwise R → (∀ x, x ∈ l ↔ x ∈ m) → l = m
  | [], [], _, _, _ => rfl
  | [], y :: m, _, _, h => absurd ((h y).mpr List.mem_cons_self) (by simp)
  | x :: l, [], _, _, h => absurd ((h x).mp List.mem_cons_self) (by simp)
  | x :: l, y :: m, hl, hm, h => by
    rw [List.pairwise_cons] at hl hm
    have exy : x = y := by
      rcases List.mem_cons.mp ((h x).mp List.mem_cons_self) with e | e
      · exact e
      · rcases List.mem_cons.mp ((h y).mpr List.mem_cons_self) with e' | e'
        · exact e'.symm
        · exact (as _ _ (hm.1 x e) (hl.1 y e')).elim
    subst exy
    rw [ziG ir as hl.2 hm.2 fun z => ?_]
    constructor
    · intro hz
      rcases List.mem_cons.mp ((h z).mp (List.mem_cons_of_mem _ hz)) with e | e
      · subst e; exact (ir _ (hl.1 z hz)).elim
      · exact e
    · intro hz
      rcases List.mem_cons.mp ((h z).mpr (List.mem_cons_of_mem _ hz)) with e | e
      · subst e; exact (ir _ (hm.1 z hz)).elim
      · exact e
noncomputable def cl (c : Cell) : List Int := [c.1, c.2]
theorem zpS {a b : Cell} (h : cl a = cl b) : a = b := by
  simp [cl] at h; exact Prod.ext h.1 h.2
theorem zw2 {a b : Cell} (h : cLt a b) : lexP (cl a) (cl b) := by
  show L2.LW.lexLt [a.1, a.2] [b.1, b.2] = true
  simp only [L2.LW.lexLt]
  unfold cLt at h
  by_cases e : a.1 = b.1
  · have : ¬ a.2 = b.2 := by omega
    have h2 : a.2 < b.2 := by omega
    simp [e, this, h2]
  · have h2 : a.1 < b.1 := by omega
    simp [e, h2]
theorem zgO : ∀ L : List Cell, tups? (L.map cD) = some (L.map cl)
  | [] => rfl
  | c :: r => by simp [tups?, cD, ints?, zgO r, cl]
theorem zlD {L g : List Cell} (hL : L.Nodup) (hg : g.Pairwise cLt) (h : ∀ x, x ∈ L ↔ x ∈ g) : zf6 (L.map cl) = g.map cl := by
  have nd : (L.map cl).Nodup := by
    rw [List.Nodup, List.pairwise_map]; exact hL.imp fun ne e => ne (zpS e)
  have up := zeT nd
  have up2 : (g.map cl).Pairwise lexP := by rw [List.pairwise_map]; exact hg.imp zw2
  refine ziG (R := lexP) (fun a z => by have := zbw a; rw [show L2.LW.lexLt a a = true from z] at this; cases this) (fun a b z1 z2 => by have := zch z1 z2; rw [zbw] at this; cases this) up up2 fun x => ?_
  rw [(zci _).mem_iff, List.mem_map, List.mem_map]
  exact ⟨fun ⟨c, hc, e⟩ => ⟨c, (h c).mp hc, e⟩, fun ⟨c, hc, e⟩ => ⟨c, (h c).mpr hc, e⟩⟩
theorem zdM {L g : List Cell} (hL : L.Nodup) (hl : L.length < 64) (hg : g.Pairwise cLt) (h : ∀ x, x ∈ L ↔ x ∈ g) : ze8 (L.map cD) = some (.obj true (lD g)) := by
  unfold ze8
  have nd : (L.map cl).Nodup := by
    rw [List.Nodup, List.pairwise_map]; exact hL.imp fun ne e => ne (zpS e)
  rw [zgO, Option.bind_some, if_pos ⟨by simpa using hl, nd, by simp [cl]⟩, zlD hL hg h, List.map_map]
  rfl
theorem zhq {L g : List Cell} (h0 : L ≠ []) (hL : L.Nodup) (hl : L.length < 64) (hg : g.Pairwise cLt) (h : ∀ x, x ∈ L ↔ x ∈ g) : ze7 (L.map cD) = some (.obj true (lD g)) := by
  unfold ze7
  have : ints? (L.map cD) = none := by
    cases L with
    | nil => exact absurd rfl h0
    | cons c r => rfl
  rw [this]
  exact zdM hL hl hg h
section
variable {α : Type} (g : α → D)
theorem zoW {ms : List (Cell × α)} {c : Cell} {v : α} (h : (getG ms c).isSome = true) : dput true (ms.map fun p => cD p.1) (ms.map fun p => g p.2) (cD c) (g v) = dG g (ms.map fun p => if p.1 = c then (p.1, v) else p) := by
  unfold dput
  rw [zfr, zcq, ← zaJ, if_pos h, ← zfr]
  have : ∀ ms : List (Cell × α), List.zipWith (fun k' v' => if eqD k' (cD c) = true then g v else v') (ms.map fun p => cD p.1) (ms.map fun p => g p.2) = ms.map fun p => g (if p.1 = c then (p.1, v) else p).2 := by
    intro ms
    induction ms with
    | nil => rfl
    | cons p r ih =>
      rw [List.map_cons, List.map_cons, List.zipWith_cons_cons, ih, List.map_cons, zkJ]
      by_cases h : p.1 = c <;> simp [h]
  rw [this]
  unfold dG
  rw [List.map_map, List.map_map]
  congr 1
  apply List.map_congr_left
  intro p _
  show cD p.1 = cD (if p.1 = c then (p.1, v) else p).1
  split <;> rfl
theorem znr : ∀ (ms2 ms : List (Cell × α)), ∃ ms' : List (Cell × α), zcE (ms.map fun p => cD p.1) (ms.map fun p => g p.2) (ms2.map fun p => cD p.1) (ms2.map fun p => g p.2) = (ms'.map (fun p => cD p.1), ms'.map fun p => g p.2) ∧
    (∀ c, (getG ms' c).isSome = ((getG ms c).isSome || (getG ms2 c).isSome)) ∧ ms'.length ≤ ms.length + ms2.length
  | [], ms => ⟨ms, by simp [zcE], fun c => by simp [getG], by simp⟩
  | p :: r, ms => by
    have st : ∃ ms1 : List (Cell × α), dput true (ms.map fun p => cD p.1) (ms.map fun p => g p.2) (cD p.1) (g p.2) = dG g ms1 ∧ (∀ c, (getG ms1 c).isSome = ((getG ms c).isSome || decide (p.1 = c))) ∧ ms1.length ≤ ms.length + 1 := by
      by_cases h : (getG ms p.1).isSome = true
      · refine ⟨_, zoW g h, fun c => ?_, by simp⟩
        have hk : ((ms.map fun q => if q.1 = p.1 then (q.1, p.2) else q).map (·.1)) = ms.map (·.1) := by
          rw [List.map_map]; apply List.map_congr_left; intro q _
          show (if q.1 = p.1 then (q.1, p.2) else q).1 = q.1
          split <;> rfl
        rw [zaJ, hk, ← zaJ]
        by_cases e : p.1 = c
        · subst e; simp [h]
        · simp [e]
      · have h' : getG ms p.1 = none := by simpa using h
        refine ⟨_, znl h', fun c => ?_, by simp⟩
        rw [zbE h']
        by_cases e : c = p.1
        · subst e; simp
        · have : ¬ p.1 = c := fun z => e z.symm
          simp [e, this]
    obtain ⟨ms1, e1, e2, e3⟩ := st
    obtain ⟨ms', f1, f2, f3⟩ := znr r ms1
    refine ⟨ms', ?_, fun c => ?_, by simp; omega⟩
    · rw [List.map_cons, List.map_cons, zcE, e1]
      exact f1
    · rw [f2, e2, zbD]
      by_cases e : p.1 = c
      · simp [e]
      · simp [e]
end
theorem zjV {α : Type} {g : α → D} {ms : List (Cell × α)} (h : ∀ c ∈ ms.map (·.1), okC c) : (ms.map fun p => cD p.1).all zia = true := by
  rw [List.all_eq_true]
  intro d hd
  rw [List.mem_map] at hd
  obtain ⟨p, hp, rfl⟩ := hd
  have := h p.1 (List.mem_map.mpr ⟨p, hp, rfl⟩)
  unfold okC at this
  simp [cD, zia]; omega
noncomputable def part (f : List Cell) (l c : Cell) : List Cell := f.filter fun x => @decide (∃ k, Bk f l c k x) (Classical.propDecidable _)
theorem zcr {f : List Cell} {l c x : Cell} : x ∈ part f l c ↔ x ∈ f ∧ ∃ k, Bk f l c k x := by
  unfold part; rw [List.mem_filter]; simp
noncomputable def zaU (f : List Cell) (l : Cell) : List Cell → List (List Cell) → List (List Cell)
  | [], acc => acc
  | c :: r, acc => if c ∈ acc.flatten then zaU f l r acc else zaU f l r (acc ++ [part f l c])
noncomputable def zeK (f : List Cell) (l : Cell) : List (List Cell) := zaU f l f []
noncomputable def llD (P : List (List Cell)) : D := .lst (P.map lD)
theorem zns {f : List Cell} {l c : Cell} (h : c ∈ f) : c ∈ part f l c := zcr.mpr ⟨h, 0, rfl⟩
end LK
set_option linter.all false
namespace LK
open L2.LW
theorem zbM {f : List Cell} {l x : Cell} : ∀ {g : List Cell} {acc : List (List Cell)}, zaU f l (g ++ [x]) acc = if x ∈ (zaU f l g acc).flatten then zaU f l g acc else zaU f l g acc ++ [part f l x]
  | [], acc => by
    show zaU f l [x] acc = _
    rw [zaU]
    rfl
  | c :: r, acc => by
    rw [List.cons_append, zaU, zaU]
    split
    · exact zbM
    · exact zbM
theorem znt {f : List Cell} {l c : Cell} (h : f.Pairwise cLt) : (part f l c).Pairwise cLt := h.filter _
section
variable {f : List Cell} {l : Cell}
noncomputable def pwE (f : List Cell) (l : Cell) (acc : List (List Cell)) (ms : zfs) (s4 s5 : Option SV) : Env := [some (.val (fD f)), some (.val (cD l)), some (.obj true (llD acc)), some (.obj true (dG oD ms)), s4, s5]
theorem zrc (n : Nat) (hf : OkF f) {acc : List (List Cell)} {ms : zfs} {c : Cell} {s5 : Option SV} (hc : c ∈ f) (hm : ∀ x, (getG ms x).isSome = decide (x ∈ acc.flatten)) (hl : ms.length ≤ 1000) (ha : acc.length ≤ 1000) (h5 : za5 (some s5) = true) :
    ∃ ms' s5', exSs (zas U zat (n + 4)) zat ziw (pwE f l acc ms (some (.val (cD c))) s5) = some (.nx, pwE f l (if c ∈ acc.flatten then acc else acc ++ [part f l c]) ms' (some (.val (cD c))) s5') ∧
      (∀ x, (getG ms' x).isSome = decide (x ∈ (if c ∈ acc.flatten then acc else acc ++ [part f l c]).flatten)) ∧ ms'.length ≤ ms.length + 24 ∧ za5 (some s5') = true := by
  have hl' := zbY
  by_cases hin : c ∈ acc.flatten
  · refine ⟨ms, s5, ?_, by simpa [hin] using hm, by omega, h5⟩
    have h1 := hm c
    rw [decide_eq_true hin] at h1
    rw [if_pos hin]
    simp [ziw, pwE, zgN, h1]
  · have hlen := hf.len
    obtain ⟨ms2, q, e2⟩ := zft (l := l) n (by omega : f.length ≤ 100) hc
    obtain ⟨ms', f1, f2, f3⟩ := znr oD ms2 ms
    have len2 := q.toLOk.len
    have h1 := hm c
    rw [decide_eq_false hin] at h1
    have sub : ∀ x, x ∈ ms2.map (·.1) ↔ x ∈ part f l c := fun x => by
      rw [zcr, ← q.all x, zaJ, decide_eq_true_iff]
      refine ⟨fun z => ⟨q.sub x (by rw [zaJ, decide_eq_true_iff]; exact z), z⟩, fun z => z.2⟩
    have sk : zaj .skeys [dG oD ms2] = some (.obj true (lD (part f l c))) := by
      show ze8 (ms2.map fun p => cD p.1) = _
      rw [zfr]
      exact zdM q.nd (by rw [List.length_map]; omega) (znt hf.rise) sub
    have ed : ∀ s4, zmj (pwE f l acc ms s4 (some (.obj true (dG oD ms2)))) 3 5 = some (.nx, pwE f l acc ms' s4 (some (.obj true (dG oD ms2)))) := fun s4 => by
      show zof _ 3 (.obj true (dG oD ms)) (some (dG oD ms)) (some (dG oD ms2)) = _
      unfold dG
      have sm := zjV (g := oD) (ms := ms2) fun x hx => hf.cells x (zcr.mp ((sub x).mp hx)).1
      have le : ms.length + ms2.length < line := by omega
      simp only [zof, sm, List.length_map, le, decide_true, Bool.and_self, if_true, f1]
      rfl
    have ap : ∀ (ρ : Env), appS ρ 2 (some (.obj true (lD (part f l c)))) (some (some (.obj true (llD acc)))) = some (.nx, ρ.set 2 (some (.obj true (llD (acc ++ [part f l c]))))) := fun ρ => by
      rw [llD, zeU]
      have : acc.length < line := by omega
      simp only [Option.bind_some, zqY, List.length_map, this, if_true]
      simp [llD]
    refine ⟨ms', some (.obj true (dG oD ms2)), ?_, fun x => ?_, by omega, zm5⟩
    · rw [if_neg hin]
      simp [ziw, pwE, zgN, h1, e2, h5]
      rw [← pwE, ed]
      simp [pwE, sk, ap]
    · rw [if_neg hin, f2, hm, List.flatten_append, Bool.eq_iff_iff]
      have : (getG ms2 x).isSome = decide (x ∈ part f l c) := by rw [zaJ, Bool.eq_iff_iff]; simp [sub x]
      rw [this]
      simp
theorem zfv (n : Nat) (hf : OkF f) : zaX U zat (n + 5) 30 [fD f, cD l] = some (.obj true (llD (zeK f l))) := by
  have hlen := hf.len
  obtain ⟨ρ', e, ms, s4, s5, rfl, _⟩ := zb1 (i := 4) (body := exSs (zas U zat (n + 4)) zat ziw)
    (fun pre ρ => ∃ ms s4 s5, ρ = pwE f l (zaU f l pre []) ms s4 s5 ∧ (∀ x, (getG ms x).isSome = decide (x ∈ (zaU f l pre []).flatten)) ∧ ms.length ≤ 24 * pre.length ∧ (zaU f l pre []).length ≤ pre.length ∧ za5 (some s5) = true)
    (xs := f) (ρ := pwE f l [] [] none none) ⟨[], none, none, rfl, fun x => by simp [zaU, getG], by simp, by simp [zaU], rfl⟩
    fun pre c post ρ e zz5 => by
      obtain ⟨ms, s4, s5, eρ, r1, r2, r3, r4⟩ := zz5
      subst eρ
      have hc : c ∈ f := by rw [e]; simp
      have hp : pre.length < f.length := by rw [e]; simp
      obtain ⟨ms', s5', e2, q1, q2, q3⟩ := zrc (l := l) n hf hc r1 (by omega) (by omega) r4
      refine ⟨_, _, e2, .inl rfl, ms', some (.val (cD c)), s5', ?_, ?_, ?_, ?_, q3⟩
      · rw [zbM]
      · rw [zbM]; exact q1
      · simp; omega
      · rw [zbM]; split <;> simp <;> omega
  rw [zau U30 rfl]
  simp only [ir30]
  simp [zeV]
  rw [show ze5 (fD f) = some (f.map cD) from rfl]
  simp only [Option.map_some, Option.bind_some]
  rw [show D.dct true [] [] = dG oD [] from rfl, show D.lst [] = llD [] from rfl, ← pwE, e]
  simp [pwE, zeK]
theorem zjW (n : Nat) (hf : OkF f) (hl : OkL l) : zaX U zat (n + 6) 31 [fD f, cD l] = some (.obj true (llD (zeK f l))) := by
  rw [zau U31 rfl]
  have h1 := zgL (n + 1) hf
  have h2 := zbZ (n + 2) hl
  simp [ir31, h1, h2, zfv n hf]
end
end LK
set_option linter.all false
namespace LK
open L2.LW
section
variable {f : List Cell} {l : Cell}
theorem Bk.join {b c : Cell} {k : Nat} (h2 : Bk f l c k b) : ∀ {j : Nat} {a : Cell}, Bk f l b j a → Bk f l c (k + j) a
  | 0, a, h => by rw [show a = b from h]; exact h2
  | j + 1, a, h => by
    rcases h with h | ⟨ha, p, hp, hn⟩
    · exact .inl (Bk.join h2 h)
    · exact .inr ⟨ha, p, Bk.join h2 hp, hn⟩
theorem Bk.symm {b : Cell} (hb : b ∈ f) : ∀ {j : Nat} {a : Cell}, a ∈ f → Bk f l b j a → Bk f l a j b
  | 0, a, _, h => by rw [show a = b from h]; exact rfl
  | j + 1, a, ha, h => by
    rcases h with h | ⟨_, p, hp, hn⟩
    · exact .inl (Bk.symm hb ha h)
    · have hpf := hp.inF hb
      have h1 := Bk.symm hb hpf hp
      have h2 : Bk f l a 1 p := .inr ⟨hpf, a, rfl, by rw [zcM]; exact hn⟩
      have := Bk.join h2 h1
      rwa [Nat.add_comm] at this
theorem Bk.map {g : List Cell} (φ : Cell → Cell) (hm : ∀ x ∈ f, φ x ∈ g) (hn : ∀ x y, near l x y = true → near l (φ x) (φ y) = true) {b : Cell} : ∀ {j : Nat} {a : Cell}, Bk f l b j a → Bk g l (φ b) j (φ a)
  | 0, a, h => by rw [show a = b from h]; exact rfl
  | j + 1, a, h => by
    rcases h with h | ⟨ha, p, hp, hq⟩
    · exact .inl (Bk.map φ hm hn h)
    · exact .inr ⟨hm a ha, φ p, Bk.map φ hm hn hp, hn a p hq⟩
theorem Bk.free {b : Cell} : ∀ {j : Nat} {a : Cell}, Bk f l b j a → Bd l j (b.1 - a.1, b.2 - a.2)
  | 0, a, h => by
    rw [show a = b from h]
    show (b.1 - b.1, b.2 - b.2) = ((0 : Int), (0 : Int))
    simp
  | j + 1, a, h => by
    rcases h with h | ⟨_, p, hp, hn⟩
    · exact .inl (Bk.free h)
    · have h1 : Bd l 1 (p.1 - a.1, p.2 - a.2) := .inr ⟨(0, 0), rfl, by
        rw [zb8] at hn ⊢
        have e1 : (0 : Int) - (p.1 - a.1) = a.1 - p.1 := by omega
        have e2 : (0 : Int) - (p.2 - a.2) = a.2 - p.2 := by omega
        simp only [e1, e2]; exact hn⟩
      have := (Bk.free hp).add h1
      have e1 : b.1 - p.1 + (p.1 - a.1) = b.1 - a.1 := by omega
      have e2 : b.2 - p.2 + (p.2 - a.2) = b.2 - a.2 := by omega
      simp only [e1, e2] at this
      exact this
noncomputable def Few (f : List Cell) (l a b : Cell) : Option Nat → Prop
  | some j => Lv f l b j a
  | none => ∀ j, ¬ Bk f l b j a
noncomputable def oI : Option Nat → D
  | some j => .int j
  | none => .non
theorem Few.uniq {a b : Cell} {o o' : Option Nat} (h : Few f l a b o) (h' : Few f l a b o') : o = o' := by
  cases o with
  | none =>
    cases o' with
    | none => rfl
    | some j => exact absurd h'.1 (h j)
  | some i =>
    cases o' with
    | none => exact absurd h.1 (h' i)
    | some j => rw [Lv.uniq h h']
theorem ziH (n : Nat) (hf : OkF f) (hl : OkL l) {one goal : Cell} (ho : one ∈ f) (hg : goal ∈ f) : ∃ o, Few f l one goal o ∧ zaX U zat (n + 6) 27 [fD f, cD l, cD one, cD goal] = some (.val (oI o)) := by
  rcases znm n hf hl ho hg with ⟨j, h1, _, h2⟩ | ⟨h1, h2⟩
  · exact ⟨some j, h1, h2⟩
  · exact ⟨none, h1, h2⟩
theorem Few.map {g : List Cell} (φ ψ : Cell → Cell) (hm : ∀ x ∈ f, φ x ∈ g) (hm2 : ∀ x ∈ g, ψ x ∈ f) (hψ : ∀ x, ψ (φ x) = x) (hn : ∀ x y, near l x y = true → near l (φ x) (φ y) = true) (hn2 : ∀ x y, near l x y = true → near l (ψ x) (ψ y) = true) {a b : Cell} {o : Option Nat} (h : Few f l a b o) : Few g l (φ a) (φ b) o := by
  have back : ∀ j, Bk g l (φ b) j (φ a) → Bk f l b j a := fun j z => by
    have := Bk.map ψ hm2 hn2 z
    rwa [hψ, hψ] at this
  cases o with
  | none => exact fun j z => h j (back j z)
  | some j => exact ⟨h.1.map φ hm hn, fun i hi z => h.2 i hi (back i z)⟩
theorem zc2 : ∀ {g : List Cell} {acc : List (List Cell)}, (∀ x ∈ g, x ∈ f) → (∀ p ∈ acc, ∃ c ∈ f, p = part f l c) → ∀ p ∈ zaU f l g acc, ∃ c ∈ f, p = part f l c
  | [], acc, _, h => h
  | c :: r, acc, hg, h => by
    rw [zaU]
    split
    · exact zc2 (fun x hx => hg x (List.mem_cons_of_mem _ hx)) h
    · refine zc2 (fun x hx => hg x (List.mem_cons_of_mem _ hx)) fun p hp => ?_
      rw [List.mem_append, List.mem_singleton] at hp
      rcases hp with hp | rfl
      · exact h p hp
      · exact ⟨c, hg c List.mem_cons_self, rfl⟩
theorem zgP {g : List Cell} : ∀ {acc : List (List Cell)} {x : Cell}, x ∈ acc.flatten → x ∈ (zaU f l g acc).flatten := by
  induction g with
  | nil => intro acc x h; exact h
  | cons c r ih =>
    intro acc x h
    rw [zaU]
    split
    · exact ih h
    · exact ih (by rw [List.flatten_append]; exact List.mem_append_left _ h)
theorem zdt : ∀ {g : List Cell} {acc : List (List Cell)}, (∀ x ∈ g, x ∈ f) → ∀ x ∈ g, x ∈ (zaU f l g acc).flatten
  | [], _, _, x, hx => by cases hx
  | c :: r, acc, hg, x, hx => by
    rw [zaU]
    rcases List.mem_cons.mp hx with rfl | hx
    · split
      · rename_i h; exact zgP h
      · exact zgP (by rw [List.flatten_append]; exact List.mem_append_right _ (by simp [zns (l := l) (hg x List.mem_cons_self)]))
    · split
      · exact zdt (fun x hx => hg x (List.mem_cons_of_mem _ hx)) x hx
      · exact zdt (fun x hx => hg x (List.mem_cons_of_mem _ hx)) x hx
theorem zlE {a b : Cell} {o : Option Nat} (ha : a ∈ f) (hb : b ∈ f) (h : Few f l a b o) : ((zeK f l).filter fun p => decide (a ∈ p) && decide (b ∈ p)).isEmpty = o.isNone := by
  cases o with
  | none =>
    have : (zeK f l).filter (fun p => decide (a ∈ p) && decide (b ∈ p)) = [] := by
      rw [List.filter_eq_nil_iff]
      intro p hp z
      rw [Bool.and_eq_true, decide_eq_true_iff, decide_eq_true_iff] at z
      obtain ⟨c, hc, rfl⟩ := zc2 (f := f) (l := l) (acc := []) (fun x hx => hx) (fun p hp => by cases hp) p hp
      obtain ⟨_, i, hi⟩ := zcr.mp z.1
      obtain ⟨_, j, hj⟩ := zcr.mp z.2
      exact h _ (Bk.join (hj.symm hc hb) hi)
    rw [this]; rfl
  | some j =>
    have hx := zdt (f := f) (l := l) (acc := []) (fun x hx => hx) b hb
    rw [List.mem_flatten] at hx
    obtain ⟨p, hp, hbp⟩ := hx
    obtain ⟨c, hc, rfl⟩ := zc2 (f := f) (l := l) (acc := []) (fun x hx => hx) (fun p hp => by cases hp) p hp
    obtain ⟨_, i, hi⟩ := zcr.mp hbp
    have hap : a ∈ part f l c := zcr.mpr ⟨ha, _, Bk.join hi h.1⟩
    have : part f l c ∈ (zeK f l).filter fun p => decide (a ∈ p) && decide (b ∈ p) := List.mem_filter.mpr ⟨hp, by simp [hap, hbp]⟩
    cases e : (zeK f l).filter fun p => decide (a ∈ p) && decide (b ∈ p) with
    | nil => rw [e] at this; cases this
    | cons x y => rfl
end
theorem ziI : ∀ L : List Cell, L.Nodup → ∃ g : List Cell, g.Pairwise cLt ∧ ∀ x, x ∈ L ↔ x ∈ g
  | [], _ => ⟨[], .nil, fun x => Iff.rfl⟩
  | c :: r, h => by
    rw [List.nodup_cons] at h
    obtain ⟨g, h1, h2⟩ := ziI r h.2
    refine ⟨g.filter (fun x => decide (cLt x c)) ++ c :: g.filter (fun x => decide (cLt c x)), ?_, fun x => ?_⟩
    · rw [List.pairwise_append]
      refine ⟨h1.filter _, ?_, fun a ha b hb => ?_⟩
      · rw [List.pairwise_cons]
        exact ⟨fun b hb => by simpa using (List.mem_filter.mp hb).2, h1.filter _⟩
      · have ha' : cLt a c := by simpa using (List.mem_filter.mp ha).2
        rcases List.mem_cons.mp hb with rfl | hb
        · exact ha'
        · exact znb ha' (by simpa using (List.mem_filter.mp hb).2)
    · rw [List.mem_append, List.mem_cons, List.mem_cons, List.mem_filter, List.mem_filter, h2 x]
      constructor
      · rintro (rfl | hx)
        · exact .inr (.inl rfl)
        · have ne : x ≠ c := fun e => h.1 (by rw [← e, h2]; exact hx)
          rcases znc ne with z | z
          · exact .inl ⟨hx, by simp [z]⟩
          · exact .inr (.inr ⟨hx, by simp [z]⟩)
      · rintro (⟨hx, _⟩ | rfl | ⟨hx, _⟩)
        · exact .inr hx
        · exact .inl rfl
        · exact .inr hx
noncomputable def swp (c : Cell) : Cell := (c.2, c.1)
theorem zrd (c : Cell) : swp (swp c) = c := rfl
theorem zkN {l : Cell} (x y : Cell) (h : near l x y = true) : near l (swp x) (swp y) = true := by
  have := zhp (s := 1) (t := 1) (w := true) (.inl rfl) (.inl rfl) h
  simpa [sig, swp] using this
noncomputable def shf (u : Int) (c : Cell) : Cell := (c.1 - u, c.2)
theorem zkO {l : Cell} (u : Int) (x y : Cell) (h : near l x y = true) : near l (shf u x) (shf u y) = true := by
  rw [zb8] at h ⊢
  have e1 : x.1 - u - (y.1 - u) = x.1 - y.1 := by omega
  simp only [shf, e1]; exact h
theorem zkP : ∀ (r : List Int) (n : Int), r.foldl min n ∈ n :: r ∧ ∀ x ∈ n :: r, r.foldl min n ≤ x
  | [], n => ⟨by simp, fun x hx => by simp at hx; subst hx; exact Int.le_refl _⟩
  | m :: r, n => by
    obtain ⟨h1, h2⟩ := zkP r (min n m)
    refine ⟨?_, fun x hx => ?_⟩
    · show r.foldl min (min n m) ∈ _
      rcases List.mem_cons.mp h1 with e | e
      · rw [e]
        by_cases z : n ≤ m
        · rw [Int.min_eq_left z]; exact List.mem_cons_self
        · rw [Int.min_eq_right (by omega)]; exact List.mem_cons_of_mem _ List.mem_cons_self
      · exact List.mem_cons_of_mem _ (List.mem_cons_of_mem _ e)
    · show r.foldl min (min n m) ≤ x
      have h0 := h2 (min n m) List.mem_cons_self
      rcases List.mem_cons.mp hx with rfl | hx
      · omega
      · rcases List.mem_cons.mp hx with rfl | hx
        · omega
        · exact h2 x (List.mem_cons_of_mem _ hx)
end LK
set_option linter.all false
namespace LK
open L2.LW
@[simp] theorem zw3 {ρ : Env} {i j k : Nat} {a b c : D} : zmk ρ i j k (.obj true (.lst [a, b, c])) = if free ρ i && free ρ j && free ρ k then some (.nx, ((ρ.set i (some (.val a))).set j (some (.val b))).set k (some (.val c))) else none := id rfl
theorem ztU {a b : Bool} : zaj .ne [.bl a, .bl b] = some (.val (.bl (a != b))) := by rw [p_ne rfl rfl, eqD]; rfl
@[simp] theorem zre {j : Nat} : oI (some j) = .int j := rfl
@[simp] theorem zrf : oI none = .non := rfl
theorem zoX {o : Option Nat} : ze6 (oI o) = o.isNone := by cases o <;> rfl
theorem ztV {o : Option Nat} : zaj .ne [oI o, oI o] = some (.val (.bl false)) := by
  cases o with
  | none => rw [zrf, p_ne rfl rfl]; rfl
  | some j => rw [zre, zwM]; simp
theorem ztW {Q : List (List Cell)} : zaj .eq [.lst (Q.map lD), .lst []] = some (.val (.bl Q.isEmpty)) := by
  have sh : shal 8 (.lst (Q.map lD)) = true := by
    rw [shal, List.all_map, List.all_eq_true]
    intro x _
    simp [lD, shal]
  rw [p_eq sh (by simp [shal])]
  congr 3
  cases Q <;> simp [eqD, eqDs]
theorem ztX {c : Cell} {L : List Cell} : zaj .inn [cD c, lD L] = some (.val (.bl (decide (c ∈ L)))) := zwU
theorem znu {f : List Cell} {l : Cell} : (zeK f l).length ≤ f.length := by
  have key : ∀ (g : List Cell) (acc : List (List Cell)), (zaU f l g acc).length ≤ acc.length + g.length := by
    intro g
    induction g with
    | nil => intro acc; simp [zaU]
    | cons c r ih =>
      intro acc
      rw [zaU]
      split
      · have := ih acc; simp; omega
      · have := ih (acc ++ [part f l c]); simp at this ⊢; omega
  have := key f []
  simpa [zeK] using this
theorem turned {f : List Cell} (hf : OkF f) : ∃ g, OkF g ∧ (∀ x, x ∈ f.map swp ↔ x ∈ g) ∧ ze7 ((f.map swp).map cD) = some (.obj true (lD g)) := by
  have hlen := hf.len
  have nd : (f.map swp).Nodup := by
    rw [List.Nodup, List.pairwise_map]
    exact (OkF.nodup hf.rise).imp fun ne e => ne (by have := congrArg swp e; simpa [zrd] using this)
  obtain ⟨g, h1, h2⟩ := ziI _ nd
  have ng := OkF.nodup h1
  have l1 := zbP nd fun x hx => (h2 x).mp hx
  have l2 := zbP ng fun x hx => (h2 x).mpr hx
  rw [List.length_map] at l1 l2
  have ne : f.map swp ≠ [] := by have := hf.ne; cases f <;> simp_all
  refine ⟨g, ⟨fun z => ?_, by omega, fun c hc => ?_, h1⟩, h2, zhq ne nd (by rw [List.length_map]; omega) h1 h2⟩
  · rw [z] at l1
    have := hf.ne
    cases f <;> simp_all
  · obtain ⟨d, hd, rfl⟩ := List.mem_map.mp ((h2 c).mpr hc)
    have := hf.cells d hd
    unfold okC at this ⊢
    simp only [swp]; omega
theorem zw4 {f : List Cell} (hf : OkF f) : ∃ u : Int, zaj .minL [.lst ((f.map (·.1)).map D.int)] = some (.val (.int u)) ∧ OkF (f.map (shf u)) ∧ 0 ≤ u ∧ u ≤ 7 := by
  cases f with
  | nil => exact absurd rfl hf.ne
  | cons c r =>
    obtain ⟨h1, h2⟩ := zkP (r.map (·.1)) c.1
    have hu : 0 ≤ (r.map (·.1)).foldl min c.1 ∧ (r.map (·.1)).foldl min c.1 ≤ 7 := by
      have : (r.map (·.1)).foldl min c.1 ∈ (c :: r).map (·.1) := h1
      obtain ⟨d, hd, e⟩ := List.mem_map.mp this
      have := hf.cells d hd
      unfold okC at this
      omega
    refine ⟨_, by rw [List.map_cons, ztv], ⟨by simp, by rw [List.length_map]; exact hf.len, fun x hx => ?_, ?_⟩, hu⟩
    · obtain ⟨d, hd, rfl⟩ := List.mem_map.mp hx
      have := hf.cells d hd
      have h3 := h2 d.1 (by have : d.1 ∈ (c :: r).map (·.1) := List.mem_map.mpr ⟨d, hd, rfl⟩
                            exact this)
      unfold okC at this ⊢
      simp only [shf]; omega
    · rw [List.pairwise_map]
      exact hf.rise.imp fun h => by unfold cLt at h ⊢; simp only [shf]; omega
theorem free_of {f : List Cell} {l one three : Cell} {o' : Option Nat} (n : Nat) (hl : OkL l) (hd : zjT (three.1 - one.1, three.2 - one.2)) (w6 : Few f l one three o') :
    ∃ ov : Option Nat, zaX U zat (n + 5) 57 [cD l, .int (three.1 - one.1), .int (three.2 - one.2)] = some (.val (oI ov)) ∧ ∀ k, o' = some k → ∃ m, ov = some m ∧ m ≤ k := by
  cases hc : canR l (three.1 - one.1, three.2 - one.2) with
  | false =>
    have z := zgc n hl hd hc
    refine ⟨none, z, fun k hk => ?_⟩
    subst hk
    rw [(Bk.free w6.1).can hl] at hc; cases hc
  | true =>
    obtain ⟨K, hK, h⟩ := zlC hl hd hc
    have z := zgd n hl hd hK h
    refine ⟨some K, z, fun k hk => ⟨K, rfl, ?_⟩⟩
    subst hk
    obtain ⟨j, hj, hw⟩ := (Bk.free w6.1).lw
    have := hw.uniq h
    omega
set_option maxHeartbeats 2000000 in
theorem zrg (n : Nat) (ns : List Int) : zaX U zat (n + 7) 58 [sD ns] = some (.val (.bl true)) := by
  rw [zau U58 rfl]
  obtain ⟨f, hf, _, e1⟩ := ziC (n + 4) ns (at_ := 4) (most := 24) (by decide) (by decide) (by decide)
  obtain ⟨l, hl, e2⟩ := zjQ (n + 5) (zdg ns 0)
  have hlen := hf.len
  have hl' := zbY
  have c0 := zbl (n + 5) ns (k := 0) (by decide)
  have c1 := zbl (n + 5) ns (k := 1) (by decide)
  have c2 := zbl (n + 5) ns (k := 2) (by decide)
  have c3 := zbl (n + 5) ns (k := 3) (by decide)
  have hlp : (0 : Int) < f.length := by have := hf.ne; cases f <;> simp_all
  obtain ⟨k1, hk1, e31⟩ := pick hf.ne (zdg ns 1)
  obtain ⟨k2, hk2, e32⟩ := pick hf.ne (zdg ns 2)
  obtain ⟨k3, hk3, e33⟩ := pick hf.ne (zdg ns 3)
  have ix1 := zdJ hk1
  have ix2 := zdJ hk2
  have ix3 := zdJ hk3
  have m1 : f[k1] ∈ f := List.getElem_mem _
  have m2 : f[k2] ∈ f := List.getElem_mem _
  have m3 : f[k3] ∈ f := List.getElem_mem _
  generalize f[k1] = one at *
  generalize f[k2] = two at *
  generalize f[k3] = three at *
  obtain ⟨o6, w6, q6⟩ := ziH n hf hl m1 m3
  obtain ⟨o8, w8, q8⟩ := ziH n hf hl m1 m2
  obtain ⟨o9, w9, q9⟩ := ziH n hf hl m2 m3
  have p1 := zjW n hf hl
  have pb := zlE m1 m3 w6
  have pl := znu (f := f) (l := l)
  obtain ⟨g, hg, hgm, gs⟩ := turned hf
  have wg : Few g l (swp one) (swp three) o6 := w6.map swp swp (fun x hx => (hgm _).mp (List.mem_map.mpr ⟨x, hx, rfl⟩)) (fun x hx => by
    obtain ⟨d, hd, rfl⟩ := List.mem_map.mp ((hgm x).mpr hx)
    exact hd) (fun _ => rfl) zkN zkN
  obtain ⟨o, wo, qg⟩ := ziH n hg hl (one := swp one) (goal := swp three) ((hgm _).mp (List.mem_map.mpr ⟨one, m1, rfl⟩)) ((hgm _).mp (List.mem_map.mpr ⟨three, m3, rfl⟩))
  have := wo.uniq wg
  subst this
  obtain ⟨u, hu, hm, u0, u7⟩ := zw4 hf
  have wm : Few (f.map (shf u)) l (shf u one) (shf u three) o := w6.map (shf u) (shf (-u)) (fun x hx => List.mem_map.mpr ⟨x, hx, rfl⟩) (fun x hx => by
    obtain ⟨d, hd, rfl⟩ := List.mem_map.mp hx
    have : shf (-u) (shf u d) = d := by simp only [shf]; exact Prod.ext (by simp only; omega) rfl
    rw [this]; exact hd) (fun d => by simp only [shf]; exact Prod.ext (by simp only; omega) rfl) (zkO u) (zkO (-u))
  obtain ⟨o', wo', qm⟩ := ziH n hm hl (one := shf u one) (goal := shf u three) (List.mem_map.mpr ⟨one, m1, rfl⟩) (List.mem_map.mpr ⟨three, m3, rfl⟩)
  have := wo'.uniq wm
  subst this
  have tri : ∀ i j, o8 = some i → o9 = some j → ∃ k, o' = some k ∧ k ≤ i + j := fun i j h1 h2 => by
    subst h1 h2
    have b := Bk.join w9.1 w8.1
    cases o' with
    | none => exact absurd b (w6 _)
    | some k =>
      refine ⟨k, rfl, ?_⟩
      by_cases z : k ≤ i + j
      · exact z
      · exact absurd b (w6.2 _ (by omega))
  have hd : zjT (three.1 - one.1, three.2 - one.2) := by
    have h1 := hf.cells one m1
    have h2 := hf.cells three m3
    unfold okC at h1 h2
    unfold zjT; simp only; omega
  have fr := free_of (n + 1) hl hd w6
  obtain ⟨ov, qf, hov⟩ := fr
  simp -implicitDefEqProofs only [ir58]
  simp -implicitDefEqProofs [e1, c0, e2]
  rw [zbS (rs := [.val (.tup [.int 1, .int 2, .int 3])]) (xs := [(1 : Int), 2, 3]) (f := D.int) (fun k => cD (if k = 1 then one else if k = 2 then two else three))]
  · rw [show [(1 : Int), 2, 3].map (fun k => cD (if k = 1 then one else if k = 2 then two else three)) = [cD one, cD two, cD three] from rfl]
    simp -implicitDefEqProofs [q6, p1]
    rw [zdI (rs := [.obj false (llD (zeK f l))]) (xs := zeK f l) (f := lD) (fun p => decide (one ∈ p) && decide (three ∈ p)) lD]
    · have tt : evT (zaX U zat (n + 6)) (.and (.prim .notN (.cons (.var 8) .nil)) (.and (.prim .notN (.cons (.var 9) .nil)) (.or (.prim .isN (.cons (.var 6) .nil)) (.prim .gt (.cons (.var 6) (.cons (.prim .add (.cons (.var 8) (.cons (.var 9) .nil))) .nil))))))
          [some (SV.val (sD ns)), some (SV.val (fD f)), some (SV.val (cD l)), some (SV.val (cD one)), some (SV.val (cD two)), some (SV.val (cD three)), some (SV.val (oI o')), some (SV.obj true (llD (zeK f l))), some (SV.val (oI o8)), some (SV.val (oI o9)), none, none, none, none] = some false := by
        clear q6 q8 q9 qg qm qf
        cases o8 with
        | none => simp -implicitDefEqProofs
        | some i =>
          cases o9 with
          | none => simp -implicitDefEqProofs
          | some j =>
            obtain ⟨k, z, hk⟩ := tri i j rfl rfl
            subst z
            simp -implicitDefEqProofs
            omega
      have gs' : zaj .sorted [.lst (f.map fun c => cD (swp c))] = some (.obj true (lD g)) := by
        have := gs
        rw [List.map_map] at this
        exact this
      have tp : zaj .toTup [lD g] = some (.val (fD g)) := rfl
      have tp2 : zaj .toTup [.lst (f.map fun c => cD (shf u c))] = some (.val (fD (f.map (shf u)))) := by
        show some (SV.val (.tup (f.map fun c => cD (shf u c)))) = some (.val (.tup ((f.map (shf u)).map cD)))
        rw [List.map_map]; rfl
      have hu' : zaj .minL [.lst (f.map fun c => D.int c.1)] = some (.val (.int u)) := by
        have := hu
        rw [List.map_map] at this
        exact this
      have qg' : zaX U zat (n + 6) 27 [fD g, cD l, .tup [.int one.2, .int one.1], .tup [.int three.2, .int three.1]] = some (.val (oI o')) := qg
      have qm' : zaX U zat (n + 6) 27 [fD (f.map (shf u)), cD l, .tup [.int (one.1 - u), .int one.2], .tup [.int (three.1 - u), .int three.2]] = some (.val (oI o')) := qm
      have qf' : zaX U zat (n + 6) 57 [cD l, .int (three.1 - one.1), .int (three.2 - one.2)] = some (.val (oI ov)) := qf
      simp -implicitDefEqProofs [ztW, pb, zoX, ztU, q8, q9, tt, -zqX]
      rw [zbS (rs := [.val (fD f)]) (xs := f) (f := cD) (fun c => cD (swp c)) (by simp -implicitDefEqProofs) rfl (by omega) (fun c _ => by simp -implicitDefEqProofs [cD, swp])]
      simp -implicitDefEqProofs [gs', tp, qg', ztV]
      rw [zbS (rs := [.val (fD f)]) (xs := f) (f := cD) (fun c => D.int c.1) (by simp -implicitDefEqProofs) rfl (by omega) (fun c _ => by simp -implicitDefEqProofs)]
      simp -implicitDefEqProofs [hu']
      rw [zbS (rs := [.val (fD f)]) (xs := f) (f := cD) (fun c => cD (shf u c)) (by simp -implicitDefEqProofs) rfl (by omega) (fun c _ => by simp -implicitDefEqProofs [cD, shf])]
      simp -implicitDefEqProofs [tp2, qm', ztV, qf']
      clear q6 q8 q9 qg qm qf qg' qm' qf' tt
      cases o' with
      | none => simp -implicitDefEqProofs
      | some k =>
        obtain ⟨m, rfl, hm2⟩ := hov k rfl
        simp -implicitDefEqProofs
        omega
    · simp -implicitDefEqProofs
    · rfl
    · omega
    · intro p hp
      simp -implicitDefEqProofs [ztX]
      by_cases z : one ∈ p <;> simp [z]
    · intro p hp _
      simp -implicitDefEqProofs
  · simp -implicitDefEqProofs
  · rfl
  · simp; omega
  · intro k hk
    simp only [List.mem_cons, List.not_mem_nil, or_false] at hk
    rcases hk with rfl | rfl | rfl
    · simp -implicitDefEqProofs [c1, zoM, zfn hlp, e31, ix1]
    · simp -implicitDefEqProofs [c2, zoM, zfn hlp, e32, ix2]
    · simp -implicitDefEqProofs [c3, zoM, zfn hlp, e33, ix3]
theorem ziJ (ns : List Int) (_ : ns.length ≤ 63) : zaX U zat depth 58 [.lst (ns.map D.int)] = some (.val (.bl true)) := zrg 33 ns
end LK
set_option maxHeartbeats 4000000
namespace LK
open PySem PySem.Spec PyProof.Rows L2 L2.LW
noncomputable def top (i : Nat) : Stmt := PySem.Challenge.pw_leaperwalk_k07_whole_ways.main.body.getD i (.Pass ⟨0, 0, 0, 0⟩)
noncomputable def psOf : Nat → List Str
  | 0 => ["thing", "least", "most"]
  | 1 => ["thing"]
  | 2 => ["thing"]
  | 3 => ["thing"]
  | 4 => ["cells"]
  | 5 => ["thing"]
  | 6 => ["floor"]
  | 7 => ["leap"]
  | 8 => ["floor", "cell"]
  | 9 => ["down", "right"]
  | 10 => ["leap", "one", "other"]
  | 11 => ["floor", "leap", "cell"]
  | 13 => ["_law_script", "_law_k"]
  | 14 => ["_law_cell_here", "_law_prime", "_law_many"]
  | 15 => ["_law_script", "_law_at", "_law_most"]
  | 16 => ["_law_cell_here"]
  | 20 => ["floor", "leap", "goal"]
  | 21 => ["leap"]
  | 22 => ["leap"]
  | 26 => ["floor", "leap", "one", "other"]
  | 27 => ["floor", "leap", "one", "other"]
  | 30 => ["cells", "leap"]
  | 31 => ["floor", "leap"]
  | 53 => ["number"]
  | 54 => ["leap", "down", "right"]
  | 55 => ["leap", "cell"]
  | 56 => ["leap", "ring", "reached"]
  | 57 => ["leap", "down", "right"]
  | 58 => ["_law_script"]
  | _ => []
noncomputable def ioOf : Nat → List Nat
  | 56 => [2]
  | _ => []
structure Txt (K : PySem.W.Frag) (mg : Str → Option Value) (F : Nat → Addr) (FD : Nat → FuncData) (TK : Nat → Tok) : Prop where
  m0 : mg "is_whole" = some (.ref (F 0))
  f0 : Fun K "is_whole" "is_whole" (top 10) (F 0) (FD 0)
  b0 : Binds K (FD 0) (psOf 0) []
  m1 : mg "is_couple" = some (.ref (F 1))
  f1 : Fun K "is_couple" "is_couple" (top 11) (F 1) (FD 1)
  b1 : Binds K (FD 1) (psOf 1) []
  m2 : mg "is_cell" = some (.ref (F 2))
  f2 : Fun K "is_cell" "is_cell" (top 12) (F 2) (FD 2)
  b2 : Binds K (FD 2) (psOf 2) []
  m3 : mg "is_leap" = some (.ref (F 3))
  f3 : Fun K "is_leap" "is_leap" (top 13) (F 3) (FD 3)
  b3 : Binds K (FD 3) (psOf 3) []
  m4 : mg "is_rising" = some (.ref (F 4))
  f4 : Fun K "is_rising" "is_rising" (top 14) (F 4) (FD 4)
  b4 : Binds K (FD 4) (psOf 4) []
  m5 : mg "is_floor" = some (.ref (F 5))
  f5 : Fun K "is_floor" "is_floor" (top 15) (F 5) (FD 5)
  b5 : Binds K (FD 5) (psOf 5) []
  m6 : mg "checked" = some (.ref (F 6))
  f6 : Fun K "checked" "checked" (top 16) (F 6) (FD 6)
  b6 : Binds K (FD 6) (psOf 6) []
  m7 : mg "checked_leap" = some (.ref (F 7))
  f7 : Fun K "checked_leap" "checked_leap" (top 17) (F 7) (FD 7)
  b7 : Binds K (FD 7) (psOf 7) []
  m8 : mg "checked_cell" = some (.ref (F 8))
  f8 : Fun K "checked_cell" "checked_cell" (top 18) (F 8) (FD 8)
  b8 : Binds K (FD 8) (psOf 8) []
  m9 : mg "folded" = some (.ref (F 9))
  f9 : Fun K "folded" "folded" (top 20) (F 9) (FD 9)
  b9 : Binds K (FD 9) (psOf 9) []
  m10 : mg "are_near" = some (.ref (F 10))
  f10 : Fun K "are_near" "are_near" (top 21) (F 10) (FD 10)
  b10 : Binds K (FD 10) (psOf 10) []
  m11 : mg "cells_near" = some (.ref (F 11))
  f11 : Fun K "cells_near" "cells_near" (top 22) (F 11) (FD 11)
  b11 : Binds K (FD 11) (psOf 11) []
  m13 : mg "_law_cell" = some (.ref (F 13))
  f13 : Fun K "_law_cell" "_law_cell" (top 39) (F 13) (FD 13)
  b13 : Binds K (FD 13) (psOf 13) []
  m14 : mg "_law_mix" = some (.ref (F 14))
  f14 : Fun K "_law_mix" "_law_mix" (top 40) (F 14) (FD 14)
  b14 : Binds K (FD 14) (psOf 14) []
  m15 : mg "_law_floor" = some (.ref (F 15))
  f15 : Fun K "_law_floor" "_law_floor" (top 41) (F 15) (FD 15)
  b15 : Binds K (FD 15) (psOf 15) []
  m16 : mg "_law_leap" = some (.ref (F 16))
  f16 : Fun K "_law_leap" "_law_leap" (top 42) (F 16) (FD 16)
  b16 : Binds K (FD 16) (psOf 16) []
  m20 : mg "leads_to" = some (.ref (F 20))
  f20 : Fun K "leads_to" "leads_to" (top 23) (F 20) (FD 20)
  b20 : Binds K (FD 20) (psOf 20) []
  m21 : mg "greatest_divisor" = some (.ref (F 21))
  f21 : Fun K "greatest_divisor" "greatest_divisor" (top 25) (F 21) (FD 21)
  b21 : Binds K (FD 21) (psOf 21) []
  m22 : mg "has_odd_sum" = some (.ref (F 22))
  f22 : Fun K "has_odd_sum" "has_odd_sum" (top 26) (F 22) (FD 22)
  b22 : Binds K (FD 22) (psOf 22) []
  m26 : mg "a_way" = some (.ref (F 26))
  f26 : Fun K "a_way" "a_way" (top 29) (F 26) (FD 26)
  b26 : Binds K (FD 26) (psOf 26) []
  m27 : mg "fewest" = some (.ref (F 27))
  f27 : Fun K "fewest" "fewest" (top 30) (F 27) (FD 27)
  b27 : Binds K (FD 27) (psOf 27) []
  m30 : mg "parts_within" = some (.ref (F 30))
  f30 : Fun K "parts_within" "parts_within" (top 24) (F 30) (FD 30)
  b30 : Binds K (FD 30) (psOf 30) []
  m31 : mg "parts_of" = some (.ref (F 31))
  f31 : Fun K "parts_of" "parts_of" (top 27) (F 31) (FD 31)
  b31 : Binds K (FD 31) (psOf 31) []
  m53 : mg "refuse_far" = some (.ref (F 53))
  f53 : Fun K "refuse_far" "refuse_far" (top 33) (F 53) (FD 53)
  b53 : Binds K (FD 53) (psOf 53) []
  m54 : mg "can_reach" = some (.ref (F 54))
  f54 : Fun K "can_reach" "can_reach" (top 34) (F 54) (FD 54)
  b54 : Binds K (FD 54) (psOf 54) []
  m55 : mg "landings" = some (.ref (F 55))
  f55 : Fun K "landings" "landings" (top 35) (F 55) (FD 55)
  b55 : Binds K (FD 55) (psOf 55) []
  m56 : mg "next_ring" = some (.ref (F 56))
  f56 : Fun K "next_ring" "next_ring" (top 36) (F 56) (FD 56)
  b56 : Binds K (FD 56) (psOf 56) []
  m57 : mg "free_fewest" = some (.ref (F 57))
  f57 : Fun K "free_fewest" "free_fewest" (top 37) (F 57) (FD 57)
  b57 : Binds K (FD 57) (psOf 57) []
  m58 : mg "law" = some (.ref (F 58))
  f58 : Fun K "law" "law" (top 43) (F 58) (FD 58)
  b58 : Binds K (FD 58) (psOf 58) []
  z_isinstance : mg "isinstance" = none
  z_int : mg "int" = none
  z_bool : mg "bool" = none
  z_len : mg "len" = none
  z_tuple : mg "tuple" = none
  z_range : mg "range" = none
  z_all : mg "all" = none
  z_abs : mg "abs" = none
  z_max : mg "max" = none
  z_min : mg "min" = none
  z_sorted : mg "sorted" = none
  c0 : mg "LAST_LINE" = some (.int 7 (TK 0))
  c1 : mg "MOST_CELLS" = some (.int 24 (TK 1))
  c2 : mg "LONGEST_LEAP" = some (.int 4 (TK 2))
  c3 : mg "FURTHEST" = some (.int 12 (TK 3))
theorem zoY : (("least" : Str) == ("__debug__" : Str)) = false := by decide +kernel
theorem zoZ : (("least" : Str) == ("__classdict__" : Str)) = false := by decide +kernel
theorem za7 : (("thing" : Str) == ("__debug__" : Str)) = false := by decide +kernel
theorem za8 : (("thing" : Str) == ("__classdict__" : Str)) = false := by decide +kernel
theorem zrh : (("most" : Str) == ("__debug__" : Str)) = false := by decide +kernel
theorem zri : (("most" : Str) == ("__classdict__" : Str)) = false := by decide +kernel
theorem ztY : (("int" : Str) == ("__debug__" : Str)) = false := by decide +kernel
theorem ztZ : ("int" : Str) ≠ "__name__" := by decide +kernel
theorem zrj : (("bool" : Str) == ("__debug__" : Str)) = false := by decide +kernel
theorem zrk : ("bool" : Str) ≠ "__name__" := by decide +kernel
theorem zfw : (("len" : Str) == ("__debug__" : Str)) = false := by decide +kernel
theorem zfx : ("len" : Str) ≠ "__name__" := by decide +kernel
theorem zdN : (("tuple" : Str) == ("__debug__" : Str)) = false := by decide +kernel
theorem zdO : ("tuple" : Str) ≠ "__name__" := by decide +kernel
theorem zev : (("LAST_LINE" : Str) == ("__debug__" : Str)) = false := by decide +kernel
theorem zb2 : (("is_whole" : Str) == ("__debug__" : Str)) = false := by decide +kernel
theorem zew : (("is_couple" : Str) == ("__debug__" : Str)) = false := by decide +kernel
theorem zfy : (("LONGEST_LEAP" : Str) == ("__debug__" : Str)) = false := by decide +kernel
theorem zcs : (("cells" : Str) == ("__debug__" : Str)) = false := by decide +kernel
theorem zct : (("cells" : Str) == ("__classdict__" : Str)) = false := by decide +kernel
theorem zkQ : (("place" : Str) == ("__debug__" : Str)) = false := by decide +kernel
theorem zkR : (("place" : Str) == ("__classdict__" : Str)) = false := by decide +kernel
theorem zpT : (("all" : Str) == ("__debug__" : Str)) = false := by decide +kernel
theorem zpU : ("all" : Str) ≠ "__name__" := by decide +kernel
theorem ziK : (("is_rising" : Str) == ("__debug__" : Str)) = false := by decide +kernel
theorem zrl : (("part" : Str) == ("__debug__" : Str)) = false := by decide +kernel
theorem zrm : (("part" : Str) == ("__classdict__" : Str)) = false := by decide +kernel
theorem zgQ : (("is_cell" : Str) == ("__debug__" : Str)) = false := by decide +kernel
theorem zhr : (("MOST_CELLS" : Str) == ("__debug__" : Str)) = false := by decide +kernel
theorem zbs : (("floor" : Str) == ("__debug__" : Str)) = false := by decide +kernel
theorem zbt : (("floor" : Str) == ("__classdict__" : Str)) = false := by decide +kernel
theorem zjX : (("is_floor" : Str) == ("__debug__" : Str)) = false := by decide +kernel
theorem zaQ : (("leap" : Str) == ("__debug__" : Str)) = false := by decide +kernel
theorem zaR : (("leap" : Str) == ("__classdict__" : Str)) = false := by decide +kernel
theorem zlF : (("is_leap" : Str) == ("__debug__" : Str)) = false := by decide +kernel
theorem zb3 : (("cell" : Str) == ("__debug__" : Str)) = false := by decide +kernel
theorem zb4 : (("cell" : Str) == ("__classdict__" : Str)) = false := by decide +kernel
theorem zb9 : (("right" : Str) == ("__debug__" : Str)) = false := by decide +kernel
theorem zca : (("right" : Str) == ("__classdict__" : Str)) = false := by decide +kernel
theorem zkS : (("abs" : Str) == ("__debug__" : Str)) = false := by decide +kernel
theorem zkT : ("abs" : Str) ≠ "__name__" := by decide +kernel
theorem zcN : (("down" : Str) == ("__debug__" : Str)) = false := by decide +kernel
theorem zcO : (("down" : Str) == ("__classdict__" : Str)) = false := by decide +kernel
theorem zpV : (("max" : Str) == ("__debug__" : Str)) = false := by decide +kernel
theorem zpW : ("max" : Str) ≠ "__name__" := by decide +kernel
theorem zpX : (("min" : Str) == ("__debug__" : Str)) = false := by decide +kernel
theorem zpY : ("min" : Str) ≠ "__name__" := by decide +kernel
theorem zbn : (("other" : Str) == ("__debug__" : Str)) = false := by decide +kernel
theorem zbo : (("other" : Str) == ("__classdict__" : Str)) = false := by decide +kernel
theorem zgR : (("one" : Str) == ("__debug__" : Str)) = false := by decide +kernel
theorem zgS : (("one" : Str) == ("__classdict__" : Str)) = false := by decide +kernel
theorem zfz : (("folded" : Str) == ("__debug__" : Str)) = false := by decide +kernel
theorem zjY : (("are_near" : Str) == ("__debug__" : Str)) = false := by decide +kernel
theorem zcb : (("leads" : Str) == ("__debug__" : Str)) = false := by decide +kernel
theorem zcc : (("leads" : Str) == ("__classdict__" : Str)) = false := by decide +kernel
theorem znv : (("edge" : Str) == ("__debug__" : Str)) = false := by decide +kernel
theorem znw : (("edge" : Str) == ("__classdict__" : Str)) = false := by decide +kernel
theorem zc3 : (("further" : Str) == ("__debug__" : Str)) = false := by decide +kernel
theorem zc4 : (("further" : Str) == ("__classdict__" : Str)) = false := by decide +kernel
theorem zhs : (("cells_near" : Str) == ("__debug__" : Str)) = false := by decide +kernel
theorem zjZ : (("goal" : Str) == ("__debug__" : Str)) = false := by decide +kernel
theorem zj0 : (("goal" : Str) == ("__classdict__" : Str)) = false := by decide +kernel
theorem zkU : (("parts" : Str) == ("__debug__" : Str)) = false := by decide +kernel
theorem zkV : (("parts" : Str) == ("__classdict__" : Str)) = false := by decide +kernel
theorem ziL : (("placed" : Str) == ("__debug__" : Str)) = false := by decide +kernel
theorem ziM : (("placed" : Str) == ("__classdict__" : Str)) = false := by decide +kernel
theorem zfA : (("leads_to" : Str) == ("__debug__" : Str)) = false := by decide +kernel
theorem zdP : (("number" : Str) == ("__debug__" : Str)) = false := by decide +kernel
theorem zdQ : (("number" : Str) == ("__classdict__" : Str)) = false := by decide +kernel
theorem zbT : (("divisor" : Str) == ("__debug__" : Str)) = false := by decide +kernel
theorem zbU : (("divisor" : Str) == ("__classdict__" : Str)) = false := by decide +kernel
theorem zb5 : (("greatest_divisor" : Str) == ("__debug__" : Str)) = false := by decide +kernel
theorem zfB : (("parts_within" : Str) == ("__debug__" : Str)) = false := by decide +kernel
theorem zb6 : (("checked_leap" : Str) == ("__debug__" : Str)) = false := by decide +kernel
theorem zgT : (("checked" : Str) == ("__debug__" : Str)) = false := by decide +kernel
theorem zgU : (("way" : Str) == ("__debug__" : Str)) = false := by decide +kernel
theorem zgV : (("way" : Str) == ("__classdict__" : Str)) = false := by decide +kernel
theorem zcP : (("checked_cell" : Str) == ("__debug__" : Str)) = false := by decide +kernel
theorem zo0 : (("a_way" : Str) == ("__debug__" : Str)) = false := by decide +kernel
theorem zfC : (("FURTHEST" : Str) == ("__debug__" : Str)) = false := by decide +kernel
theorem zge : (("has_odd_sum" : Str) == ("__debug__" : Str)) = false := by decide +kernel
theorem zdR : (("refuse_far" : Str) == ("__debug__" : Str)) = false := by decide +kernel
theorem zht : (("step" : Str) == ("__debug__" : Str)) = false := by decide +kernel
theorem zhu : (("step" : Str) == ("__classdict__" : Str)) = false := by decide +kernel
theorem zj1 : (("landings" : Str) == ("__debug__" : Str)) = false := by decide +kernel
theorem zc5 : (("reached" : Str) == ("__debug__" : Str)) = false := by decide +kernel
theorem zc6 : (("reached" : Str) == ("__classdict__" : Str)) = false := by decide +kernel
theorem znx : (("ring" : Str) == ("__debug__" : Str)) = false := by decide +kernel
theorem zny : (("ring" : Str) == ("__classdict__" : Str)) = false := by decide +kernel
theorem zkW : (("leaps" : Str) == ("__debug__" : Str)) = false := by decide +kernel
theorem zkX : (("leaps" : Str) == ("__classdict__" : Str)) = false := by decide +kernel
theorem ziN : (("next_ring" : Str) == ("__debug__" : Str)) = false := by decide +kernel
theorem ziO : (("can_reach" : Str) == ("__debug__" : Str)) = false := by decide +kernel
theorem zfD : (("_law_k" : Str) == ("__debug__" : Str)) = false := by decide +kernel
theorem zfE : (("_law_k" : Str) == ("__classdict__" : Str)) = false := by decide +kernel
theorem zaN : (("_law_script" : Str) == ("__debug__" : Str)) = false := by decide +kernel
theorem zaO : (("_law_script" : Str) == ("__classdict__" : Str)) = false := by decide +kernel
theorem zay : (("_law_cell_here" : Str) == ("__debug__" : Str)) = false := by decide +kernel
theorem zaz : (("_law_cell_here" : Str) == ("__classdict__" : Str)) = false := by decide +kernel
theorem zhv : (("_law_prime" : Str) == ("__debug__" : Str)) = false := by decide +kernel
theorem zhw : (("_law_prime" : Str) == ("__classdict__" : Str)) = false := by decide +kernel
theorem ziP : (("_law_many" : Str) == ("__debug__" : Str)) = false := by decide +kernel
theorem ziQ : (("_law_many" : Str) == ("__classdict__" : Str)) = false := by decide +kernel
theorem zcu : (("_law_found" : Str) == ("__debug__" : Str)) = false := by decide +kernel
theorem zcv : (("_law_found" : Str) == ("__classdict__" : Str)) = false := by decide +kernel
theorem ziR : (("_law_most" : Str) == ("__debug__" : Str)) = false := by decide +kernel
theorem ziS : (("_law_most" : Str) == ("__classdict__" : Str)) = false := by decide +kernel
theorem zdS : (("_law_right" : Str) == ("__debug__" : Str)) = false := by decide +kernel
theorem zdT : (("_law_right" : Str) == ("__classdict__" : Str)) = false := by decide +kernel
theorem zex : (("_law_down" : Str) == ("__debug__" : Str)) = false := by decide +kernel
theorem zey : (("_law_down" : Str) == ("__classdict__" : Str)) = false := by decide +kernel
theorem zez : (("_law_rows" : Str) == ("__debug__" : Str)) = false := by decide +kernel
theorem zeA : (("_law_rows" : Str) == ("__classdict__" : Str)) = false := by decide +kernel
theorem zeB : (("_law_wide" : Str) == ("__debug__" : Str)) = false := by decide +kernel
theorem zeC : (("_law_wide" : Str) == ("__classdict__" : Str)) = false := by decide +kernel
theorem zfF : (("_law_way" : Str) == ("__debug__" : Str)) = false := by decide +kernel
theorem zfG : (("_law_way" : Str) == ("__classdict__" : Str)) = false := by decide +kernel
theorem ziT : (("_law_seed" : Str) == ("__debug__" : Str)) = false := by decide +kernel
theorem ziU : (("_law_seed" : Str) == ("__classdict__" : Str)) = false := by decide +kernel
theorem zbL : (("_law_mix" : Str) == ("__debug__" : Str)) = false := by decide +kernel
theorem zdU : (("_law_c" : Str) == ("__debug__" : Str)) = false := by decide +kernel
theorem zdV : (("_law_c" : Str) == ("__classdict__" : Str)) = false := by decide +kernel
theorem zdW : (("_law_r" : Str) == ("__debug__" : Str)) = false := by decide +kernel
theorem zdX : (("_law_r" : Str) == ("__classdict__" : Str)) = false := by decide +kernel
theorem zc7 : (("_law_at" : Str) == ("__debug__" : Str)) = false := by decide +kernel
theorem zc8 : (("_law_at" : Str) == ("__classdict__" : Str)) = false := by decide +kernel
theorem zbx : (("_law_cell" : Str) == ("__debug__" : Str)) = false := by decide +kernel
theorem ziV : (("_law_some" : Str) == ("__debug__" : Str)) = false := by decide +kernel
theorem ziW : (("_law_some" : Str) == ("__classdict__" : Str)) = false := by decide +kernel
theorem zeD : (("_law_free" : Str) == ("__debug__" : Str)) = false := by decide +kernel
theorem zeE : (("_law_free" : Str) == ("__classdict__" : Str)) = false := by decide +kernel
theorem zaV : (("_law_straight" : Str) == ("__debug__" : Str)) = false := by decide +kernel
theorem zaW : (("_law_straight" : Str) == ("__classdict__" : Str)) = false := by decide +kernel
theorem zaY : (("_law_three" : Str) == ("__debug__" : Str)) = false := by decide +kernel
theorem zaZ : (("_law_three" : Str) == ("__classdict__" : Str)) = false := by decide +kernel
theorem zbc : (("_law_one" : Str) == ("__debug__" : Str)) = false := by decide +kernel
theorem zbd : (("_law_one" : Str) == ("__classdict__" : Str)) = false := by decide +kernel
theorem zaK : (("_law_leap_here" : Str) == ("__debug__" : Str)) = false := by decide +kernel
theorem zaL : (("_law_leap_here" : Str) == ("__classdict__" : Str)) = false := by decide +kernel
theorem zgf : (("free_fewest" : Str) == ("__debug__" : Str)) = false := by decide +kernel
theorem zel : (("_law_up" : Str) == ("__debug__" : Str)) = false := by decide +kernel
theorem zem : (("_law_up" : Str) == ("__classdict__" : Str)) = false := by decide +kernel
theorem zhx : (("_law_moved" : Str) == ("__debug__" : Str)) = false := by decide +kernel
theorem zhy : (("_law_moved" : Str) == ("__classdict__" : Str)) = false := by decide +kernel
theorem zcQ : (("fewest" : Str) == ("__debug__" : Str)) = false := by decide +kernel
theorem zaA : (("_law_floor_here" : Str) == ("__debug__" : Str)) = false := by decide +kernel
theorem zaB : (("_law_floor_here" : Str) == ("__classdict__" : Str)) = false := by decide +kernel
theorem zgg : (("_law_turned" : Str) == ("__debug__" : Str)) = false := by decide +kernel
theorem zgh : (("_law_turned" : Str) == ("__classdict__" : Str)) = false := by decide +kernel
theorem znz : (("sorted" : Str) == ("__debug__" : Str)) = false := by decide +kernel
theorem znA : ("sorted" : Str) ≠ "__name__" := by decide +kernel
theorem zdY : (("_law_first" : Str) == ("__debug__" : Str)) = false := by decide +kernel
theorem zdZ : (("_law_first" : Str) == ("__classdict__" : Str)) = false := by decide +kernel
theorem zdh : (("_law_second" : Str) == ("__debug__" : Str)) = false := by decide +kernel
theorem zdi : (("_law_second" : Str) == ("__classdict__" : Str)) = false := by decide +kernel
theorem zfH : (("_law_two" : Str) == ("__debug__" : Str)) = false := by decide +kernel
theorem zfI : (("_law_two" : Str) == ("__classdict__" : Str)) = false := by decide +kernel
theorem zhz : (("_law_parts" : Str) == ("__debug__" : Str)) = false := by decide +kernel
theorem zhA : (("_law_parts" : Str) == ("__classdict__" : Str)) = false := by decide +kernel
theorem zcR : (("_law_part" : Str) == ("__debug__" : Str)) = false := by decide +kernel
theorem zcS : (("_law_part" : Str) == ("__classdict__" : Str)) = false := by decide +kernel
theorem zj2 : (("parts_of" : Str) == ("__debug__" : Str)) = false := by decide +kernel
theorem ziX : (("_law_leap" : Str) == ("__debug__" : Str)) = false := by decide +kernel
theorem zhB : (("_law_floor" : Str) == ("__debug__" : Str)) = false := by decide +kernel
theorem sc0 : FnScope ["thing", "least", "most"] ["thing", "least", "most"] (zaa (top 10)) := ⟨rfl, rfl, rfl, by decide +kernel, rfl, by decide +kernel, by decide +kernel⟩
theorem zo1 : Vis (zaa (top 10)) "least" := .inl (by decide +kernel)
theorem zhC : Vis (zaa (top 10)) "thing" := .inl (by decide +kernel)
theorem zrn : Vis (zaa (top 10)) "most" := .inl (by decide +kernel)
theorem zd0 : (zaa (top 10)).names.lookup ("isinstance" : Str) = some .globalImplicit := by decide +kernel
theorem zt0 : (zaa (top 10)).names.lookup ("int" : Str) = some .globalImplicit := by decide +kernel
theorem zro : (zaa (top 10)).names.lookup ("bool" : Str) = some .globalImplicit := by decide +kernel
theorem sc1 : FnScope ["thing"] ["thing"] (zaa (top 11)) := ⟨rfl, rfl, rfl, by decide +kernel, rfl, by decide +kernel, by decide +kernel⟩
theorem zkY : Vis (zaa (top 11)) "thing" := .inl (by decide +kernel)
theorem zt1 : (zaa (top 11)).names.lookup ("len" : Str) = some .globalImplicit := by decide +kernel
theorem zhD : (zaa (top 11)).names.lookup ("isinstance" : Str) = some .globalImplicit := by decide +kernel
theorem zo2 : (zaa (top 11)).names.lookup ("tuple" : Str) = some .globalImplicit := by decide +kernel
theorem sc2 : FnScope ["thing"] ["thing"] (zaa (top 12)) := ⟨rfl, rfl, rfl, by decide +kernel, rfl, by decide +kernel, by decide +kernel⟩
theorem zhE : Vis (zaa (top 12)) "thing" := .inl (by decide +kernel)
theorem zeF : (zaa (top 12)).names.lookup ("LAST_LINE" : Str) = some .globalImplicit := by decide +kernel
theorem zfJ : (zaa (top 12)).names.lookup ("is_whole" : Str) = some .globalImplicit := by decide +kernel
theorem ziY : (zaa (top 12)).names.lookup ("is_couple" : Str) = some .globalImplicit := by decide +kernel
theorem sc3 : FnScope ["thing"] ["thing"] (zaa (top 13)) := ⟨rfl, rfl, rfl, by decide +kernel, rfl, by decide +kernel, by decide +kernel⟩
theorem zeY : Vis (zaa (top 13)) "thing" := .inl (by decide +kernel)
theorem zfK : (zaa (top 13)).names.lookup ("is_whole" : Str) = some .globalImplicit := by decide +kernel
theorem zfL : (zaa (top 13)).names.lookup ("LONGEST_LEAP" : Str) = some .globalImplicit := by decide +kernel
theorem ziZ : (zaa (top 13)).names.lookup ("is_couple" : Str) = some .globalImplicit := by decide +kernel
theorem sc4 : FnScope ["cells"] ["cells"] (zaa (top 14)) := ⟨rfl, rfl, rfl, by decide +kernel, rfl, by decide +kernel, by decide +kernel⟩
theorem zo3 : Vis (zaa (top 14)) "cells" := .inr (.inl (by decide +kernel))
theorem zt2 : (zaa (top 14)).names.lookup ("len" : Str) = some .globalImplicit := by decide +kernel
theorem zo4 : (zaa (top 14)).names.lookup ("range" : Str) = some .globalImplicit := by decide +kernel
theorem zt3 : (zaa (top 14)).names.lookup ("all" : Str) = some .globalImplicit := by decide +kernel
theorem sc5 : FnScope ["thing"] ["thing"] (zaa (top 15)) := ⟨rfl, rfl, rfl, by decide +kernel, rfl, by decide +kernel, by decide +kernel⟩
theorem zeZ : Vis (zaa (top 15)) "thing" := .inl (by decide +kernel)
theorem zi0 : (zaa (top 15)).names.lookup ("is_rising" : Str) = some .globalImplicit := by decide +kernel
theorem zt4 : (zaa (top 15)).names.lookup ("all" : Str) = some .globalImplicit := by decide +kernel
theorem zt5 : (zaa (top 15)).names.lookup ("len" : Str) = some .globalImplicit := by decide +kernel
theorem zhF : (zaa (top 15)).names.lookup ("MOST_CELLS" : Str) = some .globalImplicit := by decide +kernel
theorem zhG : (zaa (top 15)).names.lookup ("isinstance" : Str) = some .globalImplicit := by decide +kernel
theorem zo5 : (zaa (top 15)).names.lookup ("tuple" : Str) = some .globalImplicit := by decide +kernel
theorem sc6 : FnScope ["floor"] ["floor"] (zaa (top 16)) := ⟨rfl, rfl, rfl, by decide +kernel, rfl, by decide +kernel, by decide +kernel⟩
theorem zkZ : Vis (zaa (top 16)) "floor" := .inl (by decide +kernel)
theorem zj3 : (zaa (top 16)).names.lookup ("is_floor" : Str) = some .globalImplicit := by decide +kernel
theorem sc7 : FnScope ["leap"] ["leap"] (zaa (top 17)) := ⟨rfl, rfl, rfl, by decide +kernel, rfl, by decide +kernel, by decide +kernel⟩
theorem znB : Vis (zaa (top 17)) "leap" := .inl (by decide +kernel)
theorem zlG : (zaa (top 17)).names.lookup ("is_leap" : Str) = some .globalImplicit := by decide +kernel
theorem sc8 : FnScope ["floor", "cell"] ["floor", "cell"] (zaa (top 18)) := ⟨rfl, rfl, rfl, by decide +kernel, rfl, by decide +kernel, by decide +kernel⟩
theorem zj4 : Vis (zaa (top 18)) "cell" := .inl (by decide +kernel)
theorem zo6 : Vis (zaa (top 18)) "floor" := .inl (by decide +kernel)
theorem zlH : (zaa (top 18)).names.lookup ("is_cell" : Str) = some .globalImplicit := by decide +kernel
theorem sc9 : FnScope ["down", "right"] ["down", "right"] (zaa (top 20)) := ⟨rfl, rfl, rfl, by decide +kernel, rfl, by decide +kernel, by decide +kernel⟩
theorem zk0 : Vis (zaa (top 20)) "right" := .inl (by decide +kernel)
theorem znC : Vis (zaa (top 20)) "down" := .inl (by decide +kernel)
theorem zk1 : (zaa (top 20)).names.lookup ("abs" : Str) = some .globalImplicit := by decide +kernel
theorem zt6 : (zaa (top 20)).names.lookup ("max" : Str) = some .globalImplicit := by decide +kernel
theorem zt7 : (zaa (top 20)).names.lookup ("min" : Str) = some .globalImplicit := by decide +kernel
theorem sc10 : FnScope ["leap", "one", "other"] ["leap", "one", "other"] (zaa (top 21)) := ⟨rfl, rfl, rfl, by decide +kernel, rfl, by decide +kernel, by decide +kernel⟩
theorem zi1 : Vis (zaa (top 21)) "other" := .inl (by decide +kernel)
theorem znD : Vis (zaa (top 21)) "one" := .inl (by decide +kernel)
theorem zo7 : Vis (zaa (top 21)) "leap" := .inl (by decide +kernel)
theorem zlI : (zaa (top 21)).names.lookup ("folded" : Str) = some .globalImplicit := by decide +kernel
theorem sc11 : FnScope ["floor", "leap", "cell"] ["floor", "leap", "cell"] (zaa (top 22)) := ⟨rfl, rfl, rfl, by decide +kernel, rfl, by decide +kernel, by decide +kernel⟩
theorem znE : Vis (zaa (top 22)) "floor" := .inl (by decide +kernel)
theorem sc13 : FnScope ["_law_script", "_law_k"] ["_law_script", "_law_k"] (zaa (top 39)) := ⟨rfl, rfl, rfl, by decide +kernel, rfl, by decide +kernel, by decide +kernel⟩
theorem zgW : Vis (zaa (top 39)) "_law_k" := .inl (by decide +kernel)
theorem zcT : Vis (zaa (top 39)) "_law_script" := .inl (by decide +kernel)
theorem zrp : (zaa (top 39)).names.lookup ("len" : Str) = some .globalImplicit := by decide +kernel
theorem sc14 : FnScope ["_law_cell_here", "_law_prime", "_law_many"] ["_law_cell_here", "_law_prime", "_law_many"] (zaa (top 40)) := ⟨rfl, rfl, rfl, by decide +kernel, rfl, by decide +kernel, by decide +kernel⟩
theorem zd1 : Vis (zaa (top 40)) "_law_cell_here" := .inl (by decide +kernel)
theorem zgi : Vis (zaa (top 40)) "_law_prime" := .inl (by decide +kernel)
theorem zhH : Vis (zaa (top 40)) "_law_many" := .inl (by decide +kernel)
theorem sc15 : FnScope ["_law_script", "_law_at", "_law_most", "_law_cell_here", "_law_rows", "_law_wide", "_law_down", "_law_right", "_law_way", "_law_found", "_law_r", "_law_c", "_law_seed"] ["_law_script", "_law_at", "_law_most"] (zaa (top 41)) := ⟨rfl, rfl, rfl, by decide +kernel, rfl, by decide +kernel, by decide +kernel⟩
theorem zcd : Vis (zaa (top 41)) "_law_found" := .inl (by decide +kernel)
theorem zhI : Vis (zaa (top 41)) "_law_most" := .inl (by decide +kernel)
theorem zdj : Vis (zaa (top 41)) "_law_right" := .inl (by decide +kernel)
theorem zd2 : Vis (zaa (top 41)) "_law_down" := .inl (by decide +kernel)
theorem zd3 : Vis (zaa (top 41)) "_law_rows" := .inl (by decide +kernel)
theorem zd4 : Vis (zaa (top 41)) "_law_wide" := .inl (by decide +kernel)
theorem zeG : Vis (zaa (top 41)) "_law_way" := .inl (by decide +kernel)
theorem zhJ : Vis (zaa (top 41)) "_law_seed" := .inl (by decide +kernel)
theorem zc9 : Vis (zaa (top 41)) "_law_c" := .inl (by decide +kernel)
theorem zda : Vis (zaa (top 41)) "_law_r" := .inl (by decide +kernel)
theorem zcw : Vis (zaa (top 41)) "_law_at" := .inl (by decide +kernel)
theorem zbF : Vis (zaa (top 41)) "_law_script" := .inl (by decide +kernel)
theorem zbG : Vis (zaa (top 41)) "_law_cell_here" := .inl (by decide +kernel)
theorem zdk : Loc (zaa (top 41)) "_law_found" := .inl (by decide +kernel)
theorem zhK : Loc (zaa (top 41)) "_law_seed" := .inl (by decide +kernel)
theorem zlJ : Loc (zaa (top 41)) "_law_c" := .inl (by decide +kernel)
theorem zlK : Loc (zaa (top 41)) "_law_r" := .inl (by decide +kernel)
theorem zi2 : Loc (zaa (top 41)) "_law_way" := .inl (by decide +kernel)
theorem zgj : Loc (zaa (top 41)) "_law_right" := .inl (by decide +kernel)
theorem zhL : Loc (zaa (top 41)) "_law_down" := .inl (by decide +kernel)
theorem zhM : Loc (zaa (top 41)) "_law_wide" := .inl (by decide +kernel)
theorem zhN : Loc (zaa (top 41)) "_law_rows" := .inl (by decide +kernel)
theorem zd5 : Loc (zaa (top 41)) "_law_cell_here" := .inl (by decide +kernel)
theorem znF : (zaa (top 41)).names.lookup ("tuple" : Str) = some .globalImplicit := by decide +kernel
theorem zi3 : (zaa (top 41)).names.lookup ("range" : Str) = some .globalImplicit := by decide +kernel
theorem zby : (zaa (top 41)).names.lookup ("_law_mix" : Str) = some .globalImplicit := by decide +kernel
theorem zbQ : (zaa (top 41)).names.lookup ("_law_cell" : Str) = some .globalImplicit := by decide +kernel
theorem sc16 : FnScope ["_law_cell_here", "_law_some"] ["_law_cell_here"] (zaa (top 42)) := ⟨rfl, rfl, rfl, by decide +kernel, rfl, by decide +kernel, by decide +kernel⟩
theorem zhO : Vis (zaa (top 42)) "_law_some" := .inl (by decide +kernel)
theorem zd6 : Vis (zaa (top 42)) "_law_cell_here" := .inl (by decide +kernel)
theorem zhP : Loc (zaa (top 42)) "_law_some" := .inl (by decide +kernel)
theorem sc20 : FnScope ["floor", "leap", "goal", "leads", "edge", "further", "cell", "other"] ["floor", "leap", "goal"] (zaa (top 23)) := ⟨rfl, rfl, rfl, by decide +kernel, rfl, by decide +kernel, by decide +kernel⟩
theorem zfM : Vis (zaa (top 23)) "leads" := .inl (by decide +kernel)
theorem zk2 : Vis (zaa (top 23)) "edge" := .inl (by decide +kernel)
theorem zfN : Vis (zaa (top 23)) "further" := .inl (by decide +kernel)
theorem zk3 : Vis (zaa (top 23)) "cell" := .inl (by decide +kernel)
theorem zo8 : Vis (zaa (top 23)) "leap" := .inl (by decide +kernel)
theorem znG : Vis (zaa (top 23)) "floor" := .inl (by decide +kernel)
theorem zfO : Vis (zaa (top 23)) "other" := .inl (by decide +kernel)
theorem zk4 : Vis (zaa (top 23)) "goal" := .inl (by decide +kernel)
theorem zk5 : Loc (zaa (top 23)) "edge" := .inl (by decide +kernel)
theorem znH : Loc (zaa (top 23)) "other" := .inl (by decide +kernel)
theorem zo9 : Loc (zaa (top 23)) "cell" := .inl (by decide +kernel)
theorem zj5 : Loc (zaa (top 23)) "further" := .inl (by decide +kernel)
theorem znI : Loc (zaa (top 23)) "leads" := .inl (by decide +kernel)
theorem zrq : (zaa (top 23)).names.lookup ("len" : Str) = some .globalImplicit := by decide +kernel
theorem zgk : (zaa (top 23)).names.lookup ("cells_near" : Str) = some .globalImplicit := by decide +kernel
theorem sc21 : FnScope ["leap"] ["leap"] (zaa (top 25)) := ⟨rfl, rfl, rfl, by decide +kernel, rfl, by decide +kernel, by decide +kernel⟩
theorem zpa : Vis (zaa (top 25)) "leap" := .inr (.inl (by decide +kernel))
theorem znJ : (zaa (top 25)).names.lookup ("range" : Str) = some .globalImplicit := by decide +kernel
theorem zrr : (zaa (top 25)).names.lookup ("max" : Str) = some .globalImplicit := by decide +kernel
theorem sc22 : FnScope ["leap", "divisor"] ["leap"] (zaa (top 26)) := ⟨rfl, rfl, rfl, by decide +kernel, rfl, by decide +kernel, by decide +kernel⟩
theorem zhQ : Vis (zaa (top 26)) "leap" := .inl (by decide +kernel)
theorem zfP : Vis (zaa (top 26)) "divisor" := .inl (by decide +kernel)
theorem zj6 : Loc (zaa (top 26)) "divisor" := .inl (by decide +kernel)
theorem zdc : (zaa (top 26)).names.lookup ("greatest_divisor" : Str) = some .globalImplicit := by decide +kernel
theorem sc26 : FnScope ["floor", "leap", "one", "other", "leads", "way"] ["floor", "leap", "one", "other"] (zaa (top 29)) := ⟨rfl, rfl, rfl, by decide +kernel, rfl, by decide +kernel, by decide +kernel⟩
theorem zhR : Vis (zaa (top 29)) "way" := .inl (by decide +kernel)
theorem zfQ : Vis (zaa (top 29)) "leads" := .inl (by decide +kernel)
theorem zj7 : Vis (zaa (top 29)) "one" := .inl (by decide +kernel)
theorem zi4 : Vis (zaa (top 29)) "other" := .inl (by decide +kernel)
theorem zk6 : Vis (zaa (top 29)) "leap" := .inl (by decide +kernel)
theorem zd7 : Vis (zaa (top 29)) "floor" := .inl (by decide +kernel)
theorem zrs : Loc (zaa (top 29)) "way" := .inl (by decide +kernel)
theorem znK : Loc (zaa (top 29)) "leads" := .inl (by decide +kernel)
theorem zi5 : (zaa (top 29)).names.lookup ("leads_to" : Str) = some .globalImplicit := by decide +kernel
theorem zcA : (zaa (top 29)).names.lookup ("checked_cell" : Str) = some .globalImplicit := by decide +kernel
theorem zeL : (zaa (top 29)).names.lookup ("checked_leap" : Str) = some .globalImplicit := by decide +kernel
theorem zj8 : (zaa (top 29)).names.lookup ("checked" : Str) = some .globalImplicit := by decide +kernel
theorem sc27 : FnScope ["floor", "leap", "one", "other", "way"] ["floor", "leap", "one", "other"] (zaa (top 30)) := ⟨rfl, rfl, rfl, by decide +kernel, rfl, by decide +kernel, by decide +kernel⟩
theorem znL : Vis (zaa (top 30)) "way" := .inl (by decide +kernel)
theorem znM : Vis (zaa (top 30)) "other" := .inl (by decide +kernel)
theorem zrt : Vis (zaa (top 30)) "one" := .inl (by decide +kernel)
theorem zpb : Vis (zaa (top 30)) "leap" := .inl (by decide +kernel)
theorem znN : Vis (zaa (top 30)) "floor" := .inl (by decide +kernel)
theorem zru : Loc (zaa (top 30)) "way" := .inl (by decide +kernel)
theorem zrv : (zaa (top 30)).names.lookup ("len" : Str) = some .globalImplicit := by decide +kernel
theorem znO : (zaa (top 30)).names.lookup ("a_way" : Str) = some .globalImplicit := by decide +kernel
theorem sc30 : FnScope ["cells", "leap", "parts", "placed", "cell", "leads"] ["cells", "leap"] (zaa (top 24)) := ⟨rfl, rfl, rfl, by decide +kernel, rfl, by decide +kernel, by decide +kernel⟩
theorem zi6 : Vis (zaa (top 24)) "parts" := .inl (by decide +kernel)
theorem zk7 : Vis (zaa (top 24)) "cell" := .inl (by decide +kernel)
theorem zgX : Vis (zaa (top 24)) "placed" := .inl (by decide +kernel)
theorem zi7 : Vis (zaa (top 24)) "leads" := .inl (by decide +kernel)
theorem zpc : Vis (zaa (top 24)) "leap" := .inl (by decide +kernel)
theorem zi8 : Vis (zaa (top 24)) "cells" := .inl (by decide +kernel)
theorem znP : Loc (zaa (top 24)) "leads" := .inl (by decide +kernel)
theorem zpd : Loc (zaa (top 24)) "cell" := .inl (by decide +kernel)
theorem zlL : Loc (zaa (top 24)) "placed" := .inl (by decide +kernel)
theorem znQ : Loc (zaa (top 24)) "parts" := .inl (by decide +kernel)
theorem zlM : (zaa (top 24)).names.lookup ("sorted" : Str) = some .globalImplicit := by decide +kernel
theorem zi9 : (zaa (top 24)).names.lookup ("leads_to" : Str) = some .globalImplicit := by decide +kernel
theorem sc31 : FnScope ["floor", "leap"] ["floor", "leap"] (zaa (top 27)) := ⟨rfl, rfl, rfl, by decide +kernel, rfl, by decide +kernel, by decide +kernel⟩
theorem zk8 : Vis (zaa (top 27)) "leap" := .inl (by decide +kernel)
theorem zja : Vis (zaa (top 27)) "floor" := .inl (by decide +kernel)
theorem zeM : (zaa (top 27)).names.lookup ("parts_within" : Str) = some .globalImplicit := by decide +kernel
theorem zeN : (zaa (top 27)).names.lookup ("checked_leap" : Str) = some .globalImplicit := by decide +kernel
theorem zj9 : (zaa (top 27)).names.lookup ("checked" : Str) = some .globalImplicit := by decide +kernel
theorem sc53 : FnScope ["number"] ["number"] (zaa (top 33)) := ⟨rfl, rfl, rfl, by decide +kernel, rfl, by decide +kernel, by decide +kernel⟩
theorem zlN : Vis (zaa (top 33)) "number" := .inl (by decide +kernel)
theorem zeH : (zaa (top 33)).names.lookup ("FURTHEST" : Str) = some .globalImplicit := by decide +kernel
theorem zjb : (zaa (top 33)).names.lookup ("is_whole" : Str) = some .globalImplicit := by decide +kernel
theorem sc54 : FnScope ["leap", "down", "right", "divisor"] ["leap", "down", "right"] (zaa (top 34)) := ⟨rfl, rfl, rfl, by decide +kernel, rfl, by decide +kernel, by decide +kernel⟩
theorem zhS : Vis (zaa (top 34)) "down" := .inl (by decide +kernel)
theorem zcx : Vis (zaa (top 34)) "divisor" := .inl (by decide +kernel)
theorem zfR : Vis (zaa (top 34)) "right" := .inl (by decide +kernel)
theorem zhT : Vis (zaa (top 34)) "leap" := .inl (by decide +kernel)
theorem zka : Loc (zaa (top 34)) "divisor" := .inl (by decide +kernel)
theorem zfS : (zaa (top 34)).names.lookup ("has_odd_sum" : Str) = some .globalImplicit := by decide +kernel
theorem zdd : (zaa (top 34)).names.lookup ("greatest_divisor" : Str) = some .globalImplicit := by decide +kernel
theorem zdl : (zaa (top 34)).names.lookup ("refuse_far" : Str) = some .globalImplicit := by decide +kernel
theorem zeO : (zaa (top 34)).names.lookup ("checked_leap" : Str) = some .globalImplicit := by decide +kernel
theorem sc55 : FnScope ["leap", "cell", "cells", "step", "down", "right"] ["leap", "cell"] (zaa (top 35)) := ⟨rfl, rfl, rfl, by decide +kernel, rfl, by decide +kernel, by decide +kernel⟩
theorem zjc : Vis (zaa (top 35)) "cells" := .inl (by decide +kernel)
theorem zhU : Vis (zaa (top 35)) "leap" := .inl (by decide +kernel)
theorem ze0 : Vis (zaa (top 35)) "step" := .inl (by decide +kernel)
theorem zk9 : Vis (zaa (top 35)) "cell" := .inl (by decide +kernel)
theorem znR : Vis (zaa (top 35)) "right" := .inl (by decide +kernel)
theorem zpe : Vis (zaa (top 35)) "down" := .inl (by decide +kernel)
theorem znS : Loc (zaa (top 35)) "right" := .inl (by decide +kernel)
theorem zpf : Loc (zaa (top 35)) "down" := .inl (by decide +kernel)
theorem zpg : Loc (zaa (top 35)) "step" := .inl (by decide +kernel)
theorem znT : Loc (zaa (top 35)) "cells" := .inl (by decide +kernel)
theorem zlO : (zaa (top 35)).names.lookup ("folded" : Str) = some .globalImplicit := by decide +kernel
theorem sc56 : FnScope ["leap", "ring", "reached", "further", "cell", "other"] ["leap", "ring", "reached"] (zaa (top 36)) := ⟨rfl, rfl, rfl, by decide +kernel, rfl, by decide +kernel, by decide +kernel⟩
theorem zfT : Vis (zaa (top 36)) "further" := .inl (by decide +kernel)
theorem zph : Vis (zaa (top 36)) "cell" := .inl (by decide +kernel)
theorem zpi : Vis (zaa (top 36)) "leap" := .inl (by decide +kernel)
theorem zfU : Vis (zaa (top 36)) "other" := .inl (by decide +kernel)
theorem zfV : Vis (zaa (top 36)) "reached" := .inl (by decide +kernel)
theorem zpj : Vis (zaa (top 36)) "ring" := .inl (by decide +kernel)
theorem znU : Loc (zaa (top 36)) "other" := .inl (by decide +kernel)
theorem zpk : Loc (zaa (top 36)) "cell" := .inl (by decide +kernel)
theorem zkb : Loc (zaa (top 36)) "further" := .inl (by decide +kernel)
theorem zjd : (zaa (top 36)).names.lookup ("landings" : Str) = some .globalImplicit := by decide +kernel
theorem sc57 : FnScope ["leap", "down", "right", "goal", "ring", "reached", "leaps"] ["leap", "down", "right"] (zaa (top 37)) := ⟨rfl, rfl, rfl, by decide +kernel, rfl, by decide +kernel, by decide +kernel⟩
theorem zje : Vis (zaa (top 37)) "leaps" := .inl (by decide +kernel)
theorem zpl : Vis (zaa (top 37)) "goal" := .inl (by decide +kernel)
theorem zfW : Vis (zaa (top 37)) "reached" := .inl (by decide +kernel)
theorem zpm : Vis (zaa (top 37)) "ring" := .inl (by decide +kernel)
theorem zla : Vis (zaa (top 37)) "leap" := .inl (by decide +kernel)
theorem zjf : Vis (zaa (top 37)) "right" := .inl (by decide +kernel)
theorem zlb : Vis (zaa (top 37)) "down" := .inl (by decide +kernel)
theorem zjg : Loc (zaa (top 37)) "leaps" := .inl (by decide +kernel)
theorem zlc : Loc (zaa (top 37)) "ring" := .inl (by decide +kernel)
theorem zkc : Loc (zaa (top 37)) "reached" := .inl (by decide +kernel)
theorem zpn : Loc (zaa (top 37)) "goal" := .inl (by decide +kernel)
theorem zhV : (zaa (top 37)).names.lookup ("next_ring" : Str) = some .globalImplicit := by decide +kernel
theorem zlP : (zaa (top 37)).names.lookup ("folded" : Str) = some .globalImplicit := by decide +kernel
theorem zhW : (zaa (top 37)).names.lookup ("can_reach" : Str) = some .globalImplicit := by decide +kernel
theorem sc58 : FnScope ["_law_script", "_law_floor_here", "_law_leap_here", "_law_one", "_law_two", "_law_three", "_law_straight", "_law_parts", "_law_first", "_law_second", "_law_turned", "_law_up", "_law_moved", "_law_free"] ["_law_script"] (zaa (top 43)) := ⟨rfl, rfl, rfl, by decide +kernel, rfl, by decide +kernel, by decide +kernel⟩
theorem zd8 : Vis (zaa (top 43)) "_law_free" := .inl (by decide +kernel)
theorem zaM : Vis (zaa (top 43)) "_law_straight" := .inl (by decide +kernel)
theorem za0 : Vis (zaa (top 43)) "_law_three" := .inr (.inl (by decide +kernel))
theorem za9 : Vis (zaa (top 43)) "_law_one" := .inr (.inl (by decide +kernel))
theorem zaI : Vis (zaa (top 43)) "_law_leap_here" := .inl (by decide +kernel)
theorem zfX : Vis (zaa (top 43)) "_law_up" := .inr (.inl (by decide +kernel))
theorem zgl : Vis (zaa (top 43)) "_law_moved" := .inl (by decide +kernel)
theorem zaG : Vis (zaa (top 43)) "_law_floor_here" := .inr (.inl (by decide +kernel))
theorem zfY : Vis (zaa (top 43)) "_law_turned" := .inl (by decide +kernel)
theorem zdm : Vis (zaa (top 43)) "_law_first" := .inl (by decide +kernel)
theorem zcU : Vis (zaa (top 43)) "_law_second" := .inl (by decide +kernel)
theorem zeI : Vis (zaa (top 43)) "_law_two" := .inl (by decide +kernel)
theorem zgm : Vis (zaa (top 43)) "_law_parts" := .inl (by decide +kernel)
theorem zcV : Vis (zaa (top 43)) "_law_script" := .inr (.inl (by decide +kernel))
theorem zhX : Loc (zaa (top 43)) "_law_free" := .inl (by decide +kernel)
theorem zgn : Loc (zaa (top 43)) "_law_moved" := .inl (by decide +kernel)
theorem zkd : Loc (zaa (top 43)) "_law_up" := .inr (by decide +kernel)
theorem zfZ : Loc (zaa (top 43)) "_law_turned" := .inl (by decide +kernel)
theorem zf0 : Loc (zaa (top 43)) "_law_second" := .inl (by decide +kernel)
theorem zgo : Loc (zaa (top 43)) "_law_first" := .inl (by decide +kernel)
theorem zgp : Loc (zaa (top 43)) "_law_parts" := .inl (by decide +kernel)
theorem zen : Loc (zaa (top 43)) "_law_straight" := .inl (by decide +kernel)
theorem zjh : Loc (zaa (top 43)) "_law_one" := .inr (by decide +kernel)
theorem zji : Loc (zaa (top 43)) "_law_two" := .inl (by decide +kernel)
theorem zgq : Loc (zaa (top 43)) "_law_three" := .inr (by decide +kernel)
theorem zd9 : Loc (zaa (top 43)) "_law_leap_here" := .inl (by decide +kernel)
theorem zdu : Loc (zaa (top 43)) "_law_floor_here" := .inr (by decide +kernel)
theorem zf1 : (zaa (top 43)).names.lookup ("free_fewest" : Str) = some .globalImplicit := by decide +kernel
theorem zck : (zaa (top 43)).names.lookup ("fewest" : Str) = some .globalImplicit := by decide +kernel
theorem zjj : (zaa (top 43)).names.lookup ("tuple" : Str) = some .globalImplicit := by decide +kernel
theorem zrw : (zaa (top 43)).names.lookup ("min" : Str) = some .globalImplicit := by decide +kernel
theorem zlQ : (zaa (top 43)).names.lookup ("sorted" : Str) = some .globalImplicit := by decide +kernel
theorem zjk : (zaa (top 43)).names.lookup ("parts_of" : Str) = some .globalImplicit := by decide +kernel
theorem zhY : (zaa (top 43)).names.lookup ("_law_cell" : Str) = some .globalImplicit := by decide +kernel
theorem zhZ : (zaa (top 43)).names.lookup ("_law_leap" : Str) = some .globalImplicit := by decide +kernel
theorem zgr : (zaa (top 43)).names.lookup ("_law_floor" : Str) = some .globalImplicit := by decide +kernel
section
variable {Pg : Program} {w : World} {K : PySem.W.Frag} {mg : Str → Option Value} {base : Heap} {F : Nat → Addr} {FD : Nat → FuncData} {TK : Nat → Tok} {n fuel : Nat}
theorem zw5 (T : Txt K mg F FD TK) (hall : ∀ i, FnOk Pg w K mg base CX0 n (F i) (FD i) (psOf i) (spA K (zas U fuel n) i (ioOf i))) (cdv : Value) (A : Around) (outer : List PySem.Env) (s : Shared) (H : Hp) (E : XK)
    (hr : Room n (A.deeper (envOfC "is_whole" (zaa (top 10)) s.heap.objs.size (F 0) cdv))) :
    ISs (cxOf CX0 Pg w K mg base ["thing", "least", "most"] "is_whole" (zaa (top 10)) (F 0) cdv A outer s H E).nox (exSs (zas U fuel n) fuel ir0) (zag (top 10)) :=
  (zae (s_if (IW.t (t_or (zf8 (zkz (t := .bool) zd0 T.z_isinstance zro T.z_bool PyProof.Rows.boot_bool (zaf 0 rfl zhC za7 za8) zrk zrj zab zab (zai zab zam)) (zjx _ _) zcl) (zlk (zhc (zf8 (zkz (t := .int) zd0 T.z_isinstance zt0 T.z_int PyProof.Rows.boot_int (zaf 0 rfl zhC za7 za8) ztZ ztY zab zab (zai zab zam)) (zjx _ _) zcl))))) (zae (zbB i_bl)
    zao) zao)
    (zae (zbB (zqG zmv zmv (zaf 1 rfl zo1 zoY zoZ) (zaf 0 rfl zhC za7 za8) (zaf 2 rfl zrn zrh zri)))
    zao))
theorem zw6 (T : Txt K mg F FD TK) (hall : ∀ i, FnOk Pg w K mg base CX0 n (F i) (FD i) (psOf i) (spA K (zas U fuel n) i (ioOf i))) (cdv : Value) (A : Around) (outer : List PySem.Env) (s : Shared) (H : Hp) (E : XK)
    (hr : Room n (A.deeper (envOfC "is_couple" (zaa (top 11)) s.heap.objs.size (F 1) cdv))) :
    ISs (cxOf CX0 Pg w K mg base ["thing"] "is_couple" (zaa (top 11)) (F 1) cdv A outer s H E).nox (exSs (zas U fuel n) fuel ir1) (zag (top 11)) :=
  (zae (zbB (zjv (zkz (t := .tuple) zhD T.z_isinstance zo2 T.z_tuple PyProof.Rows.boot_tuple (zaf 0 rfl zkY za7 za8) zdO zdN zab zab (zai zab zam)) (zju (zjt (zic hr.units) (zbg zfa zt1 T.z_len PySem.boot_len (zad (zaf 0 rfl zkY za7 za8) zal zab) zfx zfw zab zam) zak (zbz _)))))
    zao)
theorem zw7 (T : Txt K mg F FD TK) (hall : ∀ i, FnOk Pg w K mg base CX0 n (F i) (FD i) (psOf i) (spA K (zas U fuel n) i (ioOf i))) (cdv : Value) (A : Around) (outer : List PySem.Env) (s : Shared) (H : Hp) (E : XK)
    (hr : Room n (A.deeper (envOfC "is_cell" (zaa (top 12)) s.heap.objs.size (F 2) cdv))) :
    ISs (cxOf CX0 Pg w K mg base ["thing"] "is_cell" (zaa (top 12)) (F 2) cdv A outer s H E).nox (exSs (zas U fuel n) fuel ir2) (zag (top 12)) :=
  (zae (zbB (zjv (zax (zap (hall 1) rfl) hr ziY T.m1 T.f1.kp (T.b1) (zad (zaf 0 rfl zhE za7 za8) zal zab) zew zab zam) (zjv (zax (zap (hall 0) rfl) hr zfJ T.m0 T.f0.kp (T.b0) (zad (i_ix hr.units (zaf 0 rfl zhE za7 za8) zak (fun _ _ => rfl)) (zad zak (zad (zef zeF T.c0 zev) zal zab) zac) zah) zb2 zah (zai zac (zai zab zam))) (zju (zax (zap (hall 0) rfl) hr zfJ T.m0 T.f0.kp (T.b0) (zad (i_ix hr.units (zaf 0 rfl zhE za7 za8) zak (fun _ _ => rfl)) (zad zak (zad (zef zeF T.c0 zev) zal zab) zac) zah) zb2 zah (zai zac (zai zab zam)))))))
    zao)
theorem zw8 (T : Txt K mg F FD TK) (hall : ∀ i, FnOk Pg w K mg base CX0 n (F i) (FD i) (psOf i) (spA K (zas U fuel n) i (ioOf i))) (cdv : Value) (A : Around) (outer : List PySem.Env) (s : Shared) (H : Hp) (E : XK)
    (hr : Room n (A.deeper (envOfC "is_leap" (zaa (top 13)) s.heap.objs.size (F 3) cdv))) :
    ISs (cxOf CX0 Pg w K mg base ["thing"] "is_leap" (zaa (top 13)) (F 3) cdv A outer s H E).nox (exSs (zas U fuel n) fuel ir3) (zag (top 13)) :=
  (zae (zbB (zjv (zax (zap (hall 1) rfl) hr ziZ T.m1 T.f1.kp (T.b1) (zad (zaf 0 rfl zeY za7 za8) zal zab) zew zab zam) (zjv (zax (zap (hall 0) rfl) hr zfK T.m0 T.f0.kp (T.b0) (zad (i_ix hr.units (zaf 0 rfl zeY za7 za8) zak (fun _ _ => rfl)) (zad zak (zad (zef zfL T.c2 zfy) zal zab) zac) zah) zb2 zah (zai zac (zai zab zam))) (zju (zax (zap (hall 0) rfl) hr zfK T.m0 T.f0.kp (T.b0) (zad (i_ix hr.units (zaf 0 rfl zeY za7 za8) zak (fun _ _ => rfl)) (zad zak (zad (i_ix hr.units (zaf 0 rfl zeY za7 za8) zak (fun _ _ => rfl)) zal zah) zac) zah) zb2 zah (zai zac (zai zah zam)))))))
    zao)
theorem zw9 (T : Txt K mg F FD TK) (hall : ∀ i, FnOk Pg w K mg base CX0 n (F i) (FD i) (psOf i) (spA K (zas U fuel n) i (ioOf i))) (cdv : Value) (A : Around) (outer : List PySem.Env) (s : Shared) (H : Hp) (E : XK)
    (hr : Room n (A.deeper (envOfC "is_rising" (zaa (top 14)) s.heap.objs.size (F 4) cdv))) :
    ISs (cxOf CX0 Pg w K mg base ["cells"] "is_rising" (zaa (top 14)) (F 4) cdv A outer s H E).nox (exSs (zas U fuel n) fuel ir4) (zag (top 14)) :=
  (zae (zbB (zbg (zpB rfl) zt3 T.z_all (by decide +kernel) (zad (zdF rfl (zdG (sc := zaa (top 14)) (N := ["cells"]) rfl rfl (by decide +kernel)) (zky zo4 T.z_range (zad zak (zad (zbg zfa zt2 T.z_len PySem.boot_len (zad (zaf 0 rfl zo3 zcs zct) zal zab) zfx zfw zab zam) zal zaD) zac) zac zaD) (.inl ⟨rfl, rfl⟩) (fun _ _ _ _ => (zjt (zsE hr.units) (i_ix hr.units (zaf 1 rfl (zbr (by decide +kernel)) zcs zct) (i_op zcz (zaf 0 rfl (zbj (by decide +kernel)) zkQ zkR) zak) (fun _ _ => rfl)) (i_ix hr.units (zaf 1 rfl (zbr (by decide +kernel)) zcs zct) (zaf 0 rfl (zbj (by decide +kernel)) zkQ zkR) (fun _ _ => rfl)) (zbz _)))) zal zaE) zpU zpT zaE zam))
    zao)
theorem zxa (T : Txt K mg F FD TK) (hall : ∀ i, FnOk Pg w K mg base CX0 n (F i) (FD i) (psOf i) (spA K (zas U fuel n) i (ioOf i))) (cdv : Value) (A : Around) (outer : List PySem.Env) (s : Shared) (H : Hp) (E : XK)
    (hr : Room n (A.deeper (envOfC "is_floor" (zaa (top 15)) s.heap.objs.size (F 5) cdv))) :
    ISs (cxOf CX0 Pg w K mg base ["thing"] "is_floor" (zaa (top 15)) (F 5) cdv A outer s H E).nox (exSs (zas U fuel n) fuel ir5) (zag (top 15)) :=
  (zae (s_if (IW.t (t_or (zhc (zf8 (zkz (t := .tuple) zhG T.z_isinstance zo5 T.z_tuple PyProof.Rows.boot_tuple (zaf 0 rfl zeZ za7 za8) zdO zdN zab zab (zai zab zam)) (zjx _ _) zcl)) (zlk (zhc (zqH rfl rfl zmv zmv zak (zbg zfa zt5 T.z_len PySem.boot_len (zad (zaf 0 rfl zeZ za7 za8) zal zab) zfx zfw zab zam) (zef zhF T.c1 zhr)))))) (zae (zbB i_bl)
    zao) zao)
    (zae (zbB (zjv (zbg (zpB rfl) zt4 T.z_all (by decide +kernel) (zad (zdF rfl (zdG (sc := zaa (top 15)) (N := ["thing"]) rfl rfl (by decide +kernel)) (zbN (zaf 0 rfl zeZ za7 za8)) (.inl ⟨rfl, rfl⟩) (fun _ _ _ _ => (zax (zap (hall 2) rfl) hr (zhi (by decide +kernel)) T.m2 T.f2.kp (T.b2) (zad (zaf 0 rfl (zbj (by decide +kernel)) zrl zrm) zal zab) zgQ zab zam))) zal zaE) zpU zpT zaE zam) (zju (zax (zap (hall 4) rfl) hr zi0 T.m4 T.f4.kp (T.b4) (zad (zaf 0 rfl zeZ za7 za8) zal zab) ziK zab zam))))
    zao))
theorem zxb (T : Txt K mg F FD TK) (hall : ∀ i, FnOk Pg w K mg base CX0 n (F i) (FD i) (psOf i) (spA K (zas U fuel n) i (ioOf i))) (cdv : Value) (A : Around) (outer : List PySem.Env) (s : Shared) (H : Hp) (E : XK)
    (hr : Room n (A.deeper (envOfC "checked" (zaa (top 16)) s.heap.objs.size (F 6) cdv))) :
    ISs (cxOf CX0 Pg w K mg base ["floor"] "checked" (zaa (top 16)) (F 6) cdv A outer s H E).nox (exSs (zas U fuel n) fuel ir6) (zag (top 16)) :=
  (zae (s_if (zhc (zf8 (zax (zap (hall 5) rfl) hr zj3 T.m5 T.f5.kp (T.b5) (zad (zaf 0 rfl zkZ zbs zbt) zal zab) zjX zab zam) (zeh _ _) zcl)) (zae zkv
    zao) zao)
    (zae (zdC 0 rfl zkZ zbs zbt)
    zao))
theorem zxc (T : Txt K mg F FD TK) (hall : ∀ i, FnOk Pg w K mg base CX0 n (F i) (FD i) (psOf i) (spA K (zas U fuel n) i (ioOf i))) (cdv : Value) (A : Around) (outer : List PySem.Env) (s : Shared) (H : Hp) (E : XK)
    (hr : Room n (A.deeper (envOfC "checked_leap" (zaa (top 17)) s.heap.objs.size (F 7) cdv))) :
    ISs (cxOf CX0 Pg w K mg base ["leap"] "checked_leap" (zaa (top 17)) (F 7) cdv A outer s H E).nox (exSs (zas U fuel n) fuel ir7) (zag (top 17)) :=
  (zae (s_if (zhc (zf8 (zax (zap (hall 3) rfl) hr zlG T.m3 T.f3.kp (T.b3) (zad (zaf 0 rfl znB zaQ zaR) zal zab) zlF zab zam) (zeh _ _) zcl)) (zae zkv
    zao) zao)
    (zae (zdC 0 rfl znB zaQ zaR)
    zao))
theorem zxd (T : Txt K mg F FD TK) (hall : ∀ i, FnOk Pg w K mg base CX0 n (F i) (FD i) (psOf i) (spA K (zas U fuel n) i (ioOf i))) (cdv : Value) (A : Around) (outer : List PySem.Env) (s : Shared) (H : Hp) (E : XK)
    (hr : Room n (A.deeper (envOfC "checked_cell" (zaa (top 18)) s.heap.objs.size (F 8) cdv))) :
    ISs (cxOf CX0 Pg w K mg base ["floor", "cell"] "checked_cell" (zaa (top 18)) (F 8) cdv A outer s H E).nox (exSs (zas U fuel n) fuel ir8) (zag (top 18)) :=
  (zae (s_if (IW.t (t_or (zhc (zf8 (zax (zap (hall 2) rfl) hr zlH T.m2 T.f2.kp (T.b2) (zad (zaf 1 rfl zj4 zb3 zb4) zal zab) zgQ zab zam) (zeh _ _) zcl)) (zlk (zcg rfl (zgx hr.units) (zaf 1 rfl zj4 zb3 zb4) (zaf 0 rfl zo6 zbs zbt) (by with_unfolding_all rfl))))) (zae zkv
    zao) zao)
    (zae (zdC 1 rfl zj4 zb3 zb4)
    zao))
theorem zxe (T : Txt K mg F FD TK) (hall : ∀ i, FnOk Pg w K mg base CX0 n (F i) (FD i) (psOf i) (spA K (zas U fuel n) i (ioOf i))) (cdv : Value) (A : Around) (outer : List PySem.Env) (s : Shared) (H : Hp) (E : XK)
    (hr : Room n (A.deeper (envOfC "folded" (zaa (top 20)) s.heap.objs.size (F 9) cdv))) :
    ISs (cxOf CX0 Pg w K mg base ["down", "right"] "folded" (zaa (top 20)) (F 9) cdv A outer s H E).nox (exSs (zas U fuel n) fuel ir9) (zag (top 20)) :=
  (zae (zbB (zbi (zad (zbg (zqD rfl) zt7 T.z_min PyProof.Rows.boot_min (zad (zbg zkp zk1 T.z_abs (by decide +kernel) (zad (zaf 0 rfl znC zcN zcO) zal zab) zkT zkS zab zam) (zad (zbg zkp zk1 T.z_abs (by decide +kernel) (zad (zaf 1 rfl zk0 zb9 zca) zal zab) zkT zkS zab zam) zal zaD) zaD) zpY zpX zaD (zai zaD zam)) (zad (zbg (zqE rfl) zt6 T.z_max PyProof.Rows.boot_max (zad (zbg zkp zk1 T.z_abs (by decide +kernel) (zad (zaf 0 rfl znC zcN zcO) zal zab) zkT zkS zab zam) (zad (zbg zkp zk1 T.z_abs (by decide +kernel) (zad (zaf 1 rfl zk0 zb9 zca) zal zab) zkT zkS zab zam) zal zaD) zaD) zpW zpV zaD (zai zaD zam)) zal zaD) zaD)))
    zao)
theorem zt8 (T : Txt K mg F FD TK) (hall : ∀ i, FnOk Pg w K mg base CX0 n (F i) (FD i) (psOf i) (spA K (zas U fuel n) i (ioOf i))) (cdv : Value) (A : Around) (outer : List PySem.Env) (s : Shared) (H : Hp) (E : XK)
    (hr : Room n (A.deeper (envOfC "are_near" (zaa (top 21)) s.heap.objs.size (F 10) cdv))) :
    ISs (cxOf CX0 Pg w K mg base ["leap", "one", "other"] "are_near" (zaa (top 21)) (F 10) cdv A outer s H E).nox (exSs (zas U fuel n) fuel ir10) (zag (top 21)) :=
  (zae (zbB (zjt (zic hr.units) (zax (zap (hall 9) rfl) hr zlI T.m9 T.f9.kp (T.b9) (zad (i_op zcz (i_ix hr.units (zaf 2 rfl zi1 zbn zbo) zak (fun _ _ => rfl)) (i_ix hr.units (zaf 1 rfl znD zgR zgS) zak (fun _ _ => rfl))) (zad (i_op zcz (i_ix hr.units (zaf 2 rfl zi1 zbn zbo) zak (fun _ _ => rfl)) (i_ix hr.units (zaf 1 rfl znD zgR zgS) zak (fun _ _ => rfl))) zal zaq) zaq) zfz zaq (zai zaq zam)) (zaf 0 rfl zo7 zaQ zaR) (zbz _)))
    zao)
theorem zt9 (T : Txt K mg F FD TK) (hall : ∀ i, FnOk Pg w K mg base CX0 n (F i) (FD i) (psOf i) (spA K (zas U fuel n) i (ioOf i))) (cdv : Value) (A : Around) (outer : List PySem.Env) (s : Shared) (H : Hp) (E : XK)
    (hr : Room n (A.deeper (envOfC "cells_near" (zaa (top 22)) s.heap.objs.size (F 11) cdv))) :
    ISs (cxOf CX0 Pg w K mg base ["floor", "leap", "cell"] "cells_near" (zaa (top 22)) (F 11) cdv A outer s H E).nox (exSs (zas U fuel n) fuel ir11) (zag (top 22)) :=
  (zae (zbB (zdF rfl (zdG (sc := zaa (top 22)) (N := ["floor", "leap", "cell"]) rfl rfl (by decide +kernel)) (zbN (zaf 0 rfl znE zbs zbt)) (.inr ⟨_, rfl, fun _ _ _ _ => (zf8 (zax (zap (hall 10) rfl) hr (zhi (by decide +kernel)) T.m10 T.f10.kp (T.b10) (zad (zaf 2 rfl (zbr (by decide +kernel)) zaQ zaR) (zad (zaf 3 rfl (zbr (by decide +kernel)) zb3 zb4) (zad (zaf 0 rfl (zbj (by decide +kernel)) zbn zbo) zal zab) zab) zab) zjY zab (zai zab (zai zab zam))) (zeh _ _) zcl)⟩) (fun _ _ _ _ => (zaf 0 rfl (zbj (by decide +kernel)) zbn zbo))))
    zao)
theorem zua (T : Txt K mg F FD TK) (hall : ∀ i, FnOk Pg w K mg base CX0 n (F i) (FD i) (psOf i) (spA K (zas U fuel n) i (ioOf i))) (cdv : Value) (A : Around) (outer : List PySem.Env) (s : Shared) (H : Hp) (E : XK)
    (hr : Room n (A.deeper (envOfC "_law_cell" (zaa (top 39)) s.heap.objs.size (F 13) cdv))) :
    ISs (cxOf CX0 Pg w K mg base ["_law_script", "_law_k"] "_law_cell" (zaa (top 39)) (F 13) cdv A outer s H E).nox (exSs (zas U fuel n) fuel ir13) (zag (top 39)) :=
  (zae (s_if (zcg rfl (zsE hr.units) (zaf 1 rfl zgW zfD zfE) (zbg zfa zrp T.z_len PySem.boot_len (zad (zaf 0 rfl zcT zaN zaO) zal zab) zfx zfw zab zam) (zbz _)) (zae (zbB (i_ix hr.units (zaf 0 rfl zcT zaN zaO) (zaf 1 rfl zgW zfD zfE) (fun _ _ => rfl)))
    zao) zao)
    (zae (zbB zak)
    zao))
theorem zub (T : Txt K mg F FD TK) (hall : ∀ i, FnOk Pg w K mg base CX0 n (F i) (FD i) (psOf i) (spA K (zas U fuel n) i (ioOf i))) (cdv : Value) (A : Around) (outer : List PySem.Env) (s : Shared) (H : Hp) (E : XK)
    (hr : Room n (A.deeper (envOfC "_law_mix" (zaa (top 40)) s.heap.objs.size (F 14) cdv))) :
    ISs (cxOf CX0 Pg w K mg base ["_law_cell_here", "_law_prime", "_law_many"] "_law_mix" (zaa (top 40)) (F 14) cdv A outer s H E).nox (exSs (zas U fuel n) fuel ir14) (zag (top 40)) :=
  (zae (zbB (i_op zcG (i_op zcG (i_op zgw (zaf 0 rfl zd1 zay zaz) zak) (zaf 1 rfl zgi zhv zhw)) (zaf 2 rfl zhH ziP ziQ)))
    zao)
theorem zuc (T : Txt K mg F FD TK) (hall : ∀ i, FnOk Pg w K mg base CX0 n (F i) (FD i) (psOf i) (spA K (zas U fuel n) i (ioOf i))) (cdv : Value) (A : Around) (outer : List PySem.Env) (s : Shared) (H : Hp) (E : XK)
    (hr : Room n (A.deeper (envOfC "_law_floor" (zaa (top 41)) s.heap.objs.size (F 15) cdv))) :
    ISs (cxOf CX0 Pg w K mg base ["_law_script", "_law_at", "_law_most", "_law_cell_here", "_law_rows", "_law_wide", "_law_down", "_law_right", "_law_way", "_law_found", "_law_r", "_law_c", "_law_seed"] "_law_floor" (zaa (top 41)) (F 15) cdv A outer s H E).nox (exSs (zas U fuel n) fuel ir15) (zag (top 41)) :=
  (zae (zbe 3 sc15.nd rfl zd5 (zax (zap (hall 13) rfl) hr zbQ T.m13 T.f13.kp (T.b13) (zad (zaf 0 rfl zbF zaN zaO) (zad (zaf 1 rfl zcw zc7 zc8) zal zab) zab) zbx zab (zai zab zam)))
    (zae (zbe 4 sc15.nd rfl zhN (i_op zbv zak (zax (zap (hall 14) rfl) hr zby T.m14 T.f14.kp (T.b14) (zad (zaf 3 rfl zbG zay zaz) (zad zak (zad zak zal zac) zac) zab) zbL zab (zai zac (zai zac zam)))))
    (zae (zbe 5 sc15.nd rfl zhM (i_op zbv zak (zax (zap (hall 14) rfl) hr zby T.m14 T.f14.kp (T.b14) (zad (zaf 3 rfl zbG zay zaz) (zad zak (zad zak zal zac) zac) zab) zbL zab (zai zac (zai zac zam)))))
    (zae (zbe 6 sc15.nd rfl zhL (zax (zap (hall 14) rfl) hr zby T.m14 T.f14.kp (T.b14) (zad (zax (zap (hall 13) rfl) hr zbQ T.m13 T.f13.kp (T.b13) (zad (zaf 0 rfl zbF zaN zaO) (zad (i_op zbv (zaf 1 rfl zcw zc7 zc8) zak) zal zaq) zab) zbx zab (zai zaq zam)) (zad zak (zad (i_op zcz zak (zaf 4 rfl zd3 zez zeA)) zal zaq) zac) zaD) zbL zaD (zai zac (zai zaq zam))))
    (zae (zbe 7 sc15.nd rfl zgj (zax (zap (hall 14) rfl) hr zby T.m14 T.f14.kp (T.b14) (zad (zax (zap (hall 13) rfl) hr zbQ T.m13 T.f13.kp (T.b13) (zad (zaf 0 rfl zbF zaN zaO) (zad (i_op zbv (zaf 1 rfl zcw zc7 zc8) zak) zal zaq) zab) zbx zab (zai zaq zam)) (zad zak (zad (i_op zcz zak (zaf 5 rfl zd4 zeB zeC)) zal zaq) zac) zaD) zbL zaD (zai zac (zai zaq zam))))
    (zae (zbe 8 sc15.nd rfl zi2 (zax (zap (hall 14) rfl) hr zby T.m14 T.f14.kp (T.b14) (zad (i_op zbv (zaf 3 rfl zbG zay zaz) zak) (zad zak (zad zak zal zac) zac) zaq) zbL zaq (zai zac (zai zac zam))))
    (zae (zbe 9 sc15.nd rfl zdk (zeg zal))
    (zae (zjA 10 PassesOwn.never rfl sc15.nd rfl zlK (zkx zi3 T.z_range (zad (zaf 4 rfl zd3 zez zeA) zal zab) zab) (zae (zjA 11 PassesOwn.never rfl sc15.nd rfl zlJ (zkx zi3 T.z_range (zad (zaf 5 rfl zd4 zeB zeC) zal zab) zab) (zae (zbe 12 sc15.nd rfl zhK (i_op zbv (i_op zbv (zax (zap (hall 13) rfl) hr zbQ T.m13 T.f13.kp (T.b13) (zad (zaf 0 rfl zbF zaN zaO) (zad (i_op zbv (i_op zbv (zaf 1 rfl zcw zc7 zc8) zak) (i_op zcG (i_op zbv (zaf 10 rfl zda zdW zdX) (i_op zgw zak (zaf 11 rfl zc9 zdU zdV))) zak)) zal zaq) zab) zbx zab (zai zaq zam)) (i_op zgw (i_op zgw zak (zaf 10 rfl zda zdW zdX)) (zaf 10 rfl zda zdW zdX))) (i_op zgw (i_op zgw zak (zaf 11 rfl zc9 zdU zdV)) (zaf 11 rfl zc9 zdU zdV))))
    (zae (s_if (IW.t (t_or (zcg rfl (zic hr.units) (zaf 8 rfl zeG zfF zfG) zak (zbz _)) (zlk (zcg rfl zqC (zax (zap (hall 14) rfl) hr zby T.m14 T.f14.kp (T.b14) (zad (zaf 12 rfl zhJ ziT ziU) (zad zak (zad (i_ix hr.units (zeg (zad zak (zad zak (zad zak zal zac) zac) zac)) (i_op zcz (zaf 8 rfl zeG zfF zfG) zak) (fun _ _ => rfl)) zal zah) zac) zab) zbL zab (zai zac (zai zah zam))) zak (zbz _))))) (zae (zll 9 rfl zcd (zbi (zad (i_op zbv (zaf 6 rfl zd2 zex zey) (zaf 10 rfl zda zdW zdX)) (zad (i_op zbv (zaf 7 rfl zdj zdS zdT) (zaf 11 rfl zc9 zdU zdV)) zal zaq) zaq)) zar zcu zcv)
    zao) zao)
    zao)))
    zao))
    (zae (s_if (zhc (zf8 (zaf 9 rfl zcd zcu zcv) (zsG _) zqF)) (zae (zbe 9 sc15.nd rfl zdk (zeg (zad (zbi (zad (zaf 6 rfl zd2 zex zey) (zad (zaf 7 rfl zdj zdS zdT) zal zab) zab)) zal zar)))
    zao) zao)
    (zae (zbB (zg9 zg6 znF T.z_tuple PyProof.Rows.boot_tuple (zad (zqM (zaf 9 rfl zcd zcu zcv) (zaf 2 rfl zhI ziR ziS)) zal zah) zdO zdN zah zam))
    zao))))))))))
theorem zud (T : Txt K mg F FD TK) (hall : ∀ i, FnOk Pg w K mg base CX0 n (F i) (FD i) (psOf i) (spA K (zas U fuel n) i (ioOf i))) (cdv : Value) (A : Around) (outer : List PySem.Env) (s : Shared) (H : Hp) (E : XK)
    (hr : Room n (A.deeper (envOfC "_law_leap" (zaa (top 42)) s.heap.objs.size (F 16) cdv))) :
    ISs (cxOf CX0 Pg w K mg base ["_law_cell_here", "_law_some"] "_law_leap" (zaa (top 42)) (F 16) cdv A outer s H E).nox (exSs (zas U fuel n) fuel ir16) (zag (top 42)) :=
  (zae (zbe 1 sc16.nd rfl zhP (zeg (zad (zbi (zad zak (zad zak zal zac) zac)) (zad (zbi (zad zak (zad zak zal zac) zac)) (zad (zbi (zad zak (zad zak zal zac) zac)) (zad (zbi (zad zak (zad zak zal zac) zac)) (zad (zbi (zad zak (zad zak zal zac) zac)) (zad (zbi (zad zak (zad zak zal zac) zac)) (zad (zbi (zad zak (zad zak zal zac) zac)) (zad (zbi (zad zak (zad zak zal zac) zac)) (zad (zbi (zad zak (zad zak zal zac) zac)) (zad (zbi (zad zak (zad zak zal zac) zac)) (zad (zbi (zad zak (zad zak zal zac) zac)) (zad (zbi (zad zak (zad zak zal zac) zac)) (zad (zbi (zad zak (zad zak zal zac) zac)) zal zar) zar) zar) zar) zar) zar) zar) zar) zar) zar) zar) zar) zar)))
    (zae (zbB (i_ix hr.units (i_op zbv (zaf 1 rfl zhO ziV ziW) (zeg (zad (zbi (zad zak (zad zak zal zac) zac)) (zad (zbi (zad zak (zad zak zal zac) zac)) (zad (zbi (zad zak (zad zak zal zac) zac)) (zad (zbi (zad zak (zad zak zal zac) zac)) (zad (zbi (zad zak (zad zak zal zac) zac)) (zad (zbi (zad zak (zad zak zal zac) zac)) zal zar) zar) zar) zar) zar) zar))) (i_op zcG (zaf 0 rfl zd6 zay zaz) zak) (fun _ _ => rfl)))
    zao))
theorem zue (T : Txt K mg F FD TK) (hall : ∀ i, FnOk Pg w K mg base CX0 n (F i) (FD i) (psOf i) (spA K (zas U fuel n) i (ioOf i))) (cdv : Value) (A : Around) (outer : List PySem.Env) (s : Shared) (H : Hp) (E : XK)
    (hr : Room n (A.deeper (envOfC "leads_to" (zaa (top 23)) s.heap.objs.size (F 20) cdv))) :
    ISs (cxOf CX0 Pg w K mg base ["floor", "leap", "goal", "leads", "edge", "further", "cell", "other"] "leads_to" (zaa (top 23)) (F 20) cdv A outer s H E).nox (exSs (zas U fuel n) fuel ir20) (zag (top 23)) :=
  (zae (zbe 3 sc20.nd rfl znI (zpC hr.units (zaf 2 rfl zk4 zjZ zj0) zol))
    (zae (zbe 4 sc20.nd rfl zk5 (zeg (zad (zaf 2 rfl zk4 zjZ zj0) zal zab)))
    (zae (zjB PassesOwn.never (zcg rfl zqC (zbg zfa zrq T.z_len PySem.boot_len (zad (zaf 4 rfl zk2 znv znw) zal zab) zfx zfw zab zam) zak (zbz _)) (zae (zbe 5 sc20.nd rfl zj5 (zeg zal))
    (zae (zmF 6 4 PassesOwn.never rfl sc20.nd rfl zo9 rfl zk2 (zae (zjA 7 PassesOwn.never rfl sc20.nd rfl znH (zbN (zax (zap (hall 11) rfl) hr zgk T.m11 T.f11.kp (T.b11) (zad (zaf 0 rfl znG zbs zbt) (zad (zaf 1 rfl zo8 zaQ zaR) (zad (zaf 6 rfl zk3 zb3 zb4) zal zab) zab) zab) zhs zab (zai zab (zai zab zam)))) (zae (s_if (zcg rfl (zgx hr.units) (zaf 7 rfl zfO zbn zbo) (zaf 3 rfl zfM zcb zcc) (by with_unfolding_all rfl)) (zae (zpE 3 hr.units rfl zfM (zaf 7 rfl zfO zbn zbo) (zaf 6 rfl zk3 zb3 zb4) zcb zcc)
    (zae (zll 5 rfl zfN (zaf 7 rfl zfO zbn zbo) zab zc3 zc4)
    zao)) zao)
    zao))
    zao) (hd := znv) (hcd := znw))
    (zae (zwi 4 5 sc20.nd rfl zk5 rfl zfN (hd := zc3) (hcd := zc4))
    zao))))
    (zae (zdC 3 rfl zfM zcb zcc)
    zao))))
theorem zuf (T : Txt K mg F FD TK) (hall : ∀ i, FnOk Pg w K mg base CX0 n (F i) (FD i) (psOf i) (spA K (zas U fuel n) i (ioOf i))) (cdv : Value) (A : Around) (outer : List PySem.Env) (s : Shared) (H : Hp) (E : XK)
    (hr : Room n (A.deeper (envOfC "greatest_divisor" (zaa (top 25)) s.heap.objs.size (F 21) cdv))) :
    ISs (cxOf CX0 Pg w K mg base ["leap"] "greatest_divisor" (zaa (top 25)) (F 21) cdv A outer s H E).nox (exSs (zas U fuel n) fuel ir21) (zag (top 25)) :=
  (zae (zbB (zbg (zqO rfl) zrr T.z_max PyProof.Rows.boot_max (zad (zdF rfl (zdG (sc := zaa (top 25)) (N := ["leap"]) rfl rfl (by decide +kernel)) (zky znJ T.z_range (zad zak (zad (i_op zbv (i_ix hr.units (zaf 0 rfl zpa zaQ zaR) zak (fun _ _ => rfl)) zak) zal zaq) zac) zac zaq) (.inr ⟨_, rfl, fun _ _ _ _ => (IW.t (zom (zcg rfl (zic hr.units) (i_op zcG (i_ix hr.units (zaf 1 rfl (zbr (by decide +kernel)) zaQ zaR) zak (fun _ _ => rfl)) (zaf 0 rfl (zbj (by decide +kernel)) zdP zdQ)) zak (zbz _)) (zmA (zcg rfl (zic hr.units) (i_op zcG (i_ix hr.units (zaf 1 rfl (zbr (by decide +kernel)) zaQ zaR) zak (fun _ _ => rfl)) (zaf 0 rfl (zbj (by decide +kernel)) zdP zdQ)) zak (zbz _)))))⟩) (fun _ _ _ _ => (zaf 0 rfl (zbj (by decide +kernel)) zdP zdQ))) zal zaE) zpW zpV zaE zam))
    zao)
theorem zug (T : Txt K mg F FD TK) (hall : ∀ i, FnOk Pg w K mg base CX0 n (F i) (FD i) (psOf i) (spA K (zas U fuel n) i (ioOf i))) (cdv : Value) (A : Around) (outer : List PySem.Env) (s : Shared) (H : Hp) (E : XK)
    (hr : Room n (A.deeper (envOfC "has_odd_sum" (zaa (top 26)) s.heap.objs.size (F 22) cdv))) :
    ISs (cxOf CX0 Pg w K mg base ["leap", "divisor"] "has_odd_sum" (zaa (top 26)) (F 22) cdv A outer s H E).nox (exSs (zas U fuel n) fuel ir22) (zag (top 26)) :=
  (zae (zbe 1 sc22.nd rfl zj6 (zax (zap (hall 21) rfl) hr zdc T.m21 T.f21.kp (T.b21) (zad (zaf 0 rfl zhQ zaQ zaR) zal zab) zb5 zab zam))
    (zae (zbB (zjt (zic hr.units) (i_op zcG (i_op zbv (i_op zg5 (i_ix hr.units (zaf 0 rfl zhQ zaQ zaR) zak (fun _ _ => rfl)) (zaf 1 rfl zfP zbT zbU)) (i_op zg5 (i_ix hr.units (zaf 0 rfl zhQ zaQ zaR) zak (fun _ _ => rfl)) (zaf 1 rfl zfP zbT zbU))) zak) zak (zbz _)))
    zao))
theorem zuh (T : Txt K mg F FD TK) (hall : ∀ i, FnOk Pg w K mg base CX0 n (F i) (FD i) (psOf i) (spA K (zas U fuel n) i (ioOf i))) (cdv : Value) (A : Around) (outer : List PySem.Env) (s : Shared) (H : Hp) (E : XK)
    (hr : Room n (A.deeper (envOfC "a_way" (zaa (top 29)) s.heap.objs.size (F 26) cdv))) :
    ISs (cxOf CX0 Pg w K mg base ["floor", "leap", "one", "other", "leads", "way"] "a_way" (zaa (top 29)) (F 26) cdv A outer s H E).nox (exSs (zas U fuel n) fuel ir26) (zag (top 29)) :=
  (zae (zdB (zax (zap (hall 6) rfl) hr zj8 T.m6 T.f6.kp (T.b6) (zad (zaf 0 rfl zd7 zbs zbt) zal zab) zgT zab zam))
    (zae (zdB (zax (zap (hall 7) rfl) hr zeL T.m7 T.f7.kp (T.b7) (zad (zaf 1 rfl zk6 zaQ zaR) zal zab) zb6 zab zam))
    (zae (zdB (zax (zap (hall 8) rfl) hr zcA T.m8 T.f8.kp (T.b8) (zad (zaf 0 rfl zd7 zbs zbt) (zad (zaf 2 rfl zj7 zgR zgS) zal zab) zab) zcP zab (zai zab zam)))
    (zae (zdB (zax (zap (hall 8) rfl) hr zcA T.m8 T.f8.kp (T.b8) (zad (zaf 0 rfl zd7 zbs zbt) (zad (zaf 3 rfl zi4 zbn zbo) zal zab) zab) zcP zab (zai zab zam)))
    (zae (zbe 4 sc26.nd rfl znK (zax (zap (hall 20) rfl) hr zi5 T.m20 T.f20.kp (T.b20) (zad (zaf 0 rfl zd7 zbs zbt) (zad (zaf 1 rfl zk6 zaQ zaR) (zad (zaf 3 rfl zi4 zbn zbo) zal zab) zab) zab) zfA zab (zai zab (zai zab zam))))
    (zae (s_if (zcg rfl (zgx hr.units) (zaf 2 rfl zj7 zgR zgS) (zaf 4 rfl zfQ zcb zcc) (by with_unfolding_all rfl)) (zae (zbB zol)
    zao) zao)
    (zae (zbe 5 sc26.nd rfl zrs (zeg (zad (zaf 2 rfl zj7 zgR zgS) zal zab)))
    (zae (zjB PassesOwn.never (zmK (i_ix hr.units (zaf 4 rfl zfQ zcb zcc) (i_ix hr.units (zaf 5 rfl zhR zgU zgV) (i_un zib zak) (fun _ _ => rfl)) (fun _ _ => rfl))) (zae (zll 5 rfl zhR (i_ix hr.units (zaf 4 rfl zfQ zcb zcc) (i_ix hr.units (zaf 5 rfl zhR zgU zgV) (i_un zib zak) (fun _ _ => rfl)) (fun _ _ => rfl)) zah zgU zgV)
    zao))
    (zae (zdC 5 rfl zhR zgU zgV)
    zao)))))))))
theorem zui (T : Txt K mg F FD TK) (hall : ∀ i, FnOk Pg w K mg base CX0 n (F i) (FD i) (psOf i) (spA K (zas U fuel n) i (ioOf i))) (cdv : Value) (A : Around) (outer : List PySem.Env) (s : Shared) (H : Hp) (E : XK)
    (hr : Room n (A.deeper (envOfC "fewest" (zaa (top 30)) s.heap.objs.size (F 27) cdv))) :
    ISs (cxOf CX0 Pg w K mg base ["floor", "leap", "one", "other", "way"] "fewest" (zaa (top 30)) (F 27) cdv A outer s H E).nox (exSs (zas U fuel n) fuel ir27) (zag (top 30)) :=
  (zae (zbe 4 sc27.nd rfl zru (zax (zap (hall 26) rfl) hr znO T.m26 T.f26.kp (T.b26) (zad (zaf 0 rfl znN zbs zbt) (zad (zaf 1 rfl zpb zaQ zaR) (zad (zaf 2 rfl zrt zgR zgS) (zad (zaf 3 rfl znM zbn zbo) zal zab) zab) zab) zab) zo0 zab (zai zab (zai zab (zai zab zam)))))
    (zae (zbB (zwh (zsL (zaf 4 rfl znL zgU zgV)) zol (i_op zcz (zbg zfa zrv T.z_len PySem.boot_len (zad (zaf 4 rfl znL zgU zgV) zal zab) zfx zfw zab zam) zak)))
    zao))
theorem zuj (T : Txt K mg F FD TK) (hall : ∀ i, FnOk Pg w K mg base CX0 n (F i) (FD i) (psOf i) (spA K (zas U fuel n) i (ioOf i))) (cdv : Value) (A : Around) (outer : List PySem.Env) (s : Shared) (H : Hp) (E : XK)
    (hr : Room n (A.deeper (envOfC "parts_within" (zaa (top 24)) s.heap.objs.size (F 30) cdv))) :
    ISs (cxOf CX0 Pg w K mg base ["cells", "leap", "parts", "placed", "cell", "leads"] "parts_within" (zaa (top 24)) (F 30) cdv A outer s H E).nox (exSs (zas U fuel n) fuel ir30) (zag (top 24)) :=
  (zae (zbe 2 sc30.nd rfl znQ (zeg zal))
    (zae (zbe 3 sc30.nd rfl zlL (zsO true))
    (zae (zmF 4 0 PassesOwn.never rfl sc30.nd rfl zpd rfl zi8 (zae (s_if (zcg rfl (zgx hr.units) (zaf 4 rfl zk7 zb3 zb4) (zaf 3 rfl zgX ziL ziM) (by with_unfolding_all rfl)) (zae (zbe 5 sc30.nd rfl znP (zax (zap (hall 20) rfl) hr zi9 T.m20 T.f20.kp (T.b20) (zad (zaf 0 rfl zi8 zcs zct) (zad (zaf 1 rfl zpc zaQ zaR) (zad (zaf 4 rfl zk7 zb3 zb4) zal zab) zab) zab) zfA zab (zai zab (zai zab zam))))
    (zae (zsV 3 5 hr.units rfl zgX rfl zi7 zab ziL ziM zcb zcc)
    (zae (zll 2 rfl zi6 (zqU rfl zlM T.z_sorted (zaf 5 rfl zi7 zcb zcc) (hst := zaD)) zaD zkU zkV)
    zao))) zao)
    zao) (hd := zcs) (hcd := zct))
    (zae (zdC 2 rfl zi6 zkU zkV)
    zao))))
theorem zuk (T : Txt K mg F FD TK) (hall : ∀ i, FnOk Pg w K mg base CX0 n (F i) (FD i) (psOf i) (spA K (zas U fuel n) i (ioOf i))) (cdv : Value) (A : Around) (outer : List PySem.Env) (s : Shared) (H : Hp) (E : XK)
    (hr : Room n (A.deeper (envOfC "parts_of" (zaa (top 27)) s.heap.objs.size (F 31) cdv))) :
    ISs (cxOf CX0 Pg w K mg base ["floor", "leap"] "parts_of" (zaa (top 27)) (F 31) cdv A outer s H E).nox (exSs (zas U fuel n) fuel ir31) (zag (top 27)) :=
  (zae (zdB (zax (zap (hall 6) rfl) hr zj9 T.m6 T.f6.kp (T.b6) (zad (zaf 0 rfl zja zbs zbt) zal zab) zgT zab zam))
    (zae (zdB (zax (zap (hall 7) rfl) hr zeN T.m7 T.f7.kp (T.b7) (zad (zaf 1 rfl zk8 zaQ zaR) zal zab) zb6 zab zam))
    (zae (zbB (zax (zap (hall 30) rfl) hr zeM T.m30 T.f30.kp (T.b30) (zad (zaf 0 rfl zja zbs zbt) (zad (zaf 1 rfl zk8 zaQ zaR) zal zab) zab) zfB zab (zai zab zam)))
    zao)))
theorem zul (T : Txt K mg F FD TK) (hall : ∀ i, FnOk Pg w K mg base CX0 n (F i) (FD i) (psOf i) (spA K (zas U fuel n) i (ioOf i))) (cdv : Value) (A : Around) (outer : List PySem.Env) (s : Shared) (H : Hp) (E : XK)
    (hr : Room n (A.deeper (envOfC "refuse_far" (zaa (top 33)) s.heap.objs.size (F 53) cdv))) :
    ISs (cxOf CX0 Pg w K mg base ["number"] "refuse_far" (zaa (top 33)) (F 53) cdv A outer s H E).nox (exSs (zas U fuel n) fuel ir53) (zag (top 33)) :=
  (zae (s_if (zhc (zf8 (zax (zap (hall 0) rfl) hr zjb T.m0 T.f0.kp (T.b0) (zad (zaf 0 rfl zlN zdP zdQ) (zad (i_un zib (zef zeH T.c3 zfC)) (zad (zef zeH T.c3 zfC) zal zab) zb7) zab) zb2 zab (zai zb7 (zai zab zam))) (zeh _ _) zcl)) (zae zkv
    zao) zao)
    zao)
theorem zum (T : Txt K mg F FD TK) (hall : ∀ i, FnOk Pg w K mg base CX0 n (F i) (FD i) (psOf i) (spA K (zas U fuel n) i (ioOf i))) (cdv : Value) (A : Around) (outer : List PySem.Env) (s : Shared) (H : Hp) (E : XK)
    (hr : Room n (A.deeper (envOfC "can_reach" (zaa (top 34)) s.heap.objs.size (F 54) cdv))) :
    ISs (cxOf CX0 Pg w K mg base ["leap", "down", "right", "divisor"] "can_reach" (zaa (top 34)) (F 54) cdv A outer s H E).nox (exSs (zas U fuel n) fuel ir54) (zag (top 34)) :=
  (zae (zdB (zax (zap (hall 7) rfl) hr zeO T.m7 T.f7.kp (T.b7) (zad (zaf 0 rfl zhT zaQ zaR) zal zab) zb6 zab zam))
    (zae (zdB (zax (zap (hall 53) rfl) hr zdl T.m53 T.f53.kp (T.b53) (zad (zaf 1 rfl zhS zcN zcO) zal zab) zdR zab zam))
    (zae (zdB (zax (zap (hall 53) rfl) hr zdl T.m53 T.f53.kp (T.b53) (zad (zaf 2 rfl zfR zb9 zca) zal zab) zdR zab zam))
    (zae (zbe 3 sc54.nd rfl zka (zax (zap (hall 21) rfl) hr zdd T.m21 T.f21.kp (T.b21) (zad (zaf 0 rfl zhT zaQ zaR) zal zab) zb5 zab zam))
    (zae (s_if (IW.t (t_or (zcg rfl (zmu hr.units) (i_op zcG (zaf 1 rfl zhS zcN zcO) (zaf 3 rfl zcx zbT zbU)) zak (zbz _)) (zlk (zcg rfl (zmu hr.units) (i_op zcG (zaf 2 rfl zfR zb9 zca) (zaf 3 rfl zcx zbT zbU)) zak (zbz _))))) (zae (zbB i_bl)
    zao) zao)
    (zae (zbB (i_or (zax (zap (hall 22) rfl) hr zfS T.m22 T.f22.kp (T.b22) (zad (zaf 0 rfl zhT zaQ zaR) zal zab) zge zab zam) (zju (zjt (zic hr.units) (i_op zcG (i_op zbv (i_op zg5 (zaf 1 rfl zhS zcN zcO) (zaf 3 rfl zcx zbT zbU)) (i_op zg5 (zaf 2 rfl zfR zb9 zca) (zaf 3 rfl zcx zbT zbU))) zak) zak (zbz _)))))
    zao))))))
theorem zun (T : Txt K mg F FD TK) (hall : ∀ i, FnOk Pg w K mg base CX0 n (F i) (FD i) (psOf i) (spA K (zas U fuel n) i (ioOf i))) (cdv : Value) (A : Around) (outer : List PySem.Env) (s : Shared) (H : Hp) (E : XK)
    (hr : Room n (A.deeper (envOfC "landings" (zaa (top 35)) s.heap.objs.size (F 55) cdv))) :
    ISs (cxOf CX0 Pg w K mg base ["leap", "cell", "cells", "step", "down", "right"] "landings" (zaa (top 35)) (F 55) cdv A outer s H E).nox (exSs (zas U fuel n) fuel ir55) (zag (top 35)) :=
  (zae (zbe 2 sc55.nd rfl znT (zeg zal))
    (zae (zjA 3 PassesOwn.never rfl sc55.nd rfl zpg (zbN (zbi (zad (zaf 0 rfl zhU zaQ zaR) (zad (zbi (zad (i_ix hr.units (zaf 0 rfl zhU zaQ zaR) zak (fun _ _ => rfl)) (zad (i_ix hr.units (zaf 0 rfl zhU zaQ zaR) zak (fun _ _ => rfl)) zal zah) zah)) zal zar) zab))) (zae (zjA 4 PassesOwn.never rfl sc55.nd rfl zpf (zbN (zbi (zad (i_un zib (i_ix hr.units (zaf 3 rfl ze0 zht zhu) zak (fun _ _ => rfl))) (zad (i_ix hr.units (zaf 3 rfl ze0 zht zhu) zak (fun _ _ => rfl)) zal zah) zb7))) (zae (zjA 5 PassesOwn.never rfl sc55.nd rfl znS (zbN (zbi (zad (i_un zib (i_ix hr.units (zaf 3 rfl ze0 zht zhu) zak (fun _ _ => rfl))) (zad (i_ix hr.units (zaf 3 rfl ze0 zht zhu) zak (fun _ _ => rfl)) zal zah) zb7))) (zae (zll 2 rfl zjc (zax (zap (hall 9) rfl) hr zlO T.m9 T.f9.kp (T.b9) (zad (i_op zbv (i_ix hr.units (zaf 1 rfl zk9 zb3 zb4) zak (fun _ _ => rfl)) (zaf 4 rfl zpe zcN zcO)) (zad (i_op zbv (i_ix hr.units (zaf 1 rfl zk9 zb3 zb4) zak (fun _ _ => rfl)) (zaf 5 rfl znR zb9 zca)) zal zaq) zaq) zfz zaq (zai zaq zam)) zaD zcs zct)
    zao))
    zao))
    zao))
    (zae (zdC 2 rfl zjc zcs zct)
    zao)))
theorem zuo (T : Txt K mg F FD TK) (hall : ∀ i, FnOk Pg w K mg base CX0 n (F i) (FD i) (psOf i) (spA K (zas U fuel n) i (ioOf i))) (cdv : Value) (A : Around) (outer : List PySem.Env) (s : Shared) (H : Hp) (E : XK)
    (hr : Room n (A.deeper (envOfC "next_ring" (zaa (top 36)) s.heap.objs.size (F 56) cdv))) :
    ISs (cxOf CX0 Pg w K mg base ["leap", "ring", "reached", "further", "cell", "other"] "next_ring" (zaa (top 36)) (F 56) cdv A outer s H E).nox (exSs (zas U fuel n) fuel ir56) (zag (top 36)) :=
  (zae (zbe 3 sc56.nd rfl zkb (zeg zal))
    (zae (zmF 4 1 PassesOwn.never rfl sc56.nd rfl zpk rfl zpj (zae (zjA 5 PassesOwn.never rfl sc56.nd rfl znU (zbN (zax (zap (hall 55) rfl) hr zjd T.m55 T.f55.kp (T.b55) (zad (zaf 0 rfl zpi zaQ zaR) (zad (zaf 4 rfl zph zb3 zb4) zal zab) zab) zj1 zab (zai zab zam))) (zae (s_if (zcg rfl (zgx hr.units) (zaf 5 rfl zfU zbn zbo) (zaf 2 rfl zfV zc5 zc6) (by with_unfolding_all rfl)) (zae (zpE 2 hr.units rfl zfV (zaf 5 rfl zfU zbn zbo) i_bl zc5 zc6)
    (zae (zll 3 rfl zfT (zaf 5 rfl zfU zbn zbo) zab zc3 zc4)
    zao)) zao)
    zao))
    zao) (hd := znx) (hcd := zny))
    (zae (zdC 3 rfl zfT zc3 zc4)
    zao)))
theorem zup (T : Txt K mg F FD TK) (hall : ∀ i, FnOk Pg w K mg base CX0 n (F i) (FD i) (psOf i) (spA K (zas U fuel n) i (ioOf i))) (cdv : Value) (A : Around) (outer : List PySem.Env) (s : Shared) (H : Hp) (E : XK)
    (hr : Room n (A.deeper (envOfC "free_fewest" (zaa (top 37)) s.heap.objs.size (F 57) cdv))) :
    ISs (cxOf CX0 Pg w K mg base ["leap", "down", "right", "goal", "ring", "reached", "leaps"] "free_fewest" (zaa (top 37)) (F 57) cdv A outer s H E).nox (exSs (zas U fuel n) fuel ir57) (zag (top 37)) :=
  (zae (s_if (zhc (zf8 (zax (zap (hall 54) rfl) hr zhW T.m54 T.f54.kp (T.b54) (zad (zaf 0 rfl zla zaQ zaR) (zad (zaf 1 rfl zlb zcN zcO) (zad (zaf 2 rfl zjf zb9 zca) zal zab) zab) zab) ziO zab (zai zab (zai zab zam))) (zeh _ _) zcl)) (zae (zbB zol)
    zao) zao)
    (zae (zbe 3 sc57.nd rfl zpn (zax (zap (hall 9) rfl) hr zlP T.m9 T.f9.kp (T.b9) (zad (zaf 1 rfl zlb zcN zcO) (zad (zaf 2 rfl zjf zb9 zca) zal zab) zab) zfz zab (zai zab zam)))
    (zae (zbe 4 sc57.nd rfl zlc (zeg (zad (zbi (zad zak (zad zak zal zac) zac)) zal zar)))
    (zae (zbe 5 sc57.nd rfl zkc (zpC hr.units (zbi (zad zak (zad zak zal zac) zac)) i_bl))
    (zae (zbe 6 sc57.nd rfl zjg zak)
    (zae (zjB PassesOwn.never (zcg rfl (zgx hr.units) (zaf 3 rfl zpl zjZ zj0) (zaf 5 rfl zfW zc5 zc6) (by with_unfolding_all rfl)) (zae (zsS 4 sc57.nd rfl zlc (zsR (hall 56) rfl (by decide) (by decide) hr zhV T.m56 T.f56.kp (T.b56) (ma_e (zaf 0 rfl zla zaQ zaR) (ma_e (zaf 4 rfl zpm znx zny) (ma_s 5 rfl zfW zsQ zc5 zc6) zab) zab) ziN zab (zai zab (zai zab zam))))
    (zae (zbe 6 sc57.nd rfl zjg (i_op zbv (zaf 6 rfl zje zkW zkX) zak))
    zao)))
    (zae (zdC 6 rfl zje zkW zkX)
    zao)))))))
theorem zuq (T : Txt K mg F FD TK) (hall : ∀ i, FnOk Pg w K mg base CX0 n (F i) (FD i) (psOf i) (spA K (zas U fuel n) i (ioOf i))) (cdv : Value) (A : Around) (outer : List PySem.Env) (s : Shared) (H : Hp) (E : XK)
    (hr : Room n (A.deeper (envOfC "law" (zaa (top 43)) s.heap.objs.size (F 58) cdv))) :
    ISs (cxOf CX0 Pg w K mg base ["_law_script", "_law_floor_here", "_law_leap_here", "_law_one", "_law_two", "_law_three", "_law_straight", "_law_parts", "_law_first", "_law_second", "_law_turned", "_law_up", "_law_moved", "_law_free"] "law" (zaa (top 43)) (F 58) cdv A outer s H E).nox (exSs (zas U fuel n) fuel ir58) (zag (top 43)) :=
  (zae (zbe 1 sc58.nd rfl zdu (zax (zap (hall 15) rfl) hr zgr T.m15 T.f15.kp (T.b15) (zad (zaf 0 rfl zcV zaN zaO) (zad zak (zad zak zal zac) zac) zab) zhB zab (zai zac (zai zac zam))))
    (zae (zbe 2 sc58.nd rfl zd9 (zax (zap (hall 16) rfl) hr zhZ T.m16 T.f16.kp (T.b16) (zad (zax (zap (hall 13) rfl) hr zhY T.m13 T.f13.kp (T.b13) (zad (zaf 0 rfl zcV zaN zaO) (zad zak zal zac) zab) zbx zab (zai zac zam)) zal zaD) ziX zaD zam))
    (zae (zsX 3 4 5 rfl sc58.nd rfl zjh rfl zji rfl zgq (zdF rfl (zdG (sc := zaa (top 43)) (N := ["_law_script", "_law_floor_here", "_law_leap_here", "_law_one", "_law_two", "_law_three", "_law_straight", "_law_parts", "_law_first", "_law_second", "_law_turned", "_law_up", "_law_moved", "_law_free"]) rfl rfl (by decide +kernel)) (zbN (zbi (zad zak (zad zak (zad zak zal zac) zac) zac))) (.inl ⟨rfl, rfl⟩) (fun _ _ _ _ => (i_ix hr.units (zaf 2 rfl (zbr (by decide +kernel)) zaA zaB) (i_op zcG (zax (zap (hall 13) rfl) hr (zhi (by decide +kernel)) T.m13 T.f13.kp (T.b13) (zad (zaf 1 rfl (zbr (by decide +kernel)) zaN zaO) (zad (zaf 0 rfl (zbj (by decide +kernel)) zfD zfE) zal zab) zab) zbx zab (zai zab zam)) (zbg zfa (zhi (by decide +kernel)) T.z_len PySem.boot_len (zad (zaf 2 rfl (zbr (by decide +kernel)) zaA zaB) zal zab) zfx zfw zab zam)) (fun _ _ => rfl)))))
    (zae (zbe 6 sc58.nd rfl zen (zax (zap (hall 27) rfl) hr zck T.m27 T.f27.kp (T.b27) (zad (zaf 1 rfl zaG zaA zaB) (zad (zaf 2 rfl zaI zaK zaL) (zad (zaf 3 rfl za9 zbc zbd) (zad (zaf 5 rfl za0 zaY zaZ) zal zab) zab) zab) zab) zcQ zab (zai zab (zai zab (zai zab zam)))))
    (zae (zbe 7 sc58.nd rfl zgp (zax (zap (hall 31) rfl) hr zjk T.m31 T.f31.kp (T.b31) (zad (zaf 1 rfl zaG zaA zaB) (zad (zaf 2 rfl zaI zaK zaL) zal zab) zab) zj2 zab (zai zab zam)))
    (zae (s_if (zcg rfl (zmu hr.units) (zsJ (zaf 6 rfl zaM zaV zaW)) (zjt (zic hr.units) (zdF rfl (zdG (sc := zaa (top 43)) (N := ["_law_script", "_law_floor_here", "_law_leap_here", "_law_one", "_law_two", "_law_three", "_law_straight", "_law_parts", "_law_first", "_law_second", "_law_turned", "_law_up", "_law_moved", "_law_free"]) rfl rfl (by decide +kernel)) (zbN (zaf 7 rfl zgm zhz zhA)) (.inr ⟨_, rfl, fun _ _ _ _ => (IW.t (zom (zcg rfl (zsD hr.units) (zaf 4 rfl (zbr (by decide +kernel)) zbc zbd) (zaf 0 rfl (zbj (by decide +kernel)) zcR zcS) (by with_unfolding_all rfl)) (zmA (zcg rfl (zsD hr.units) (zaf 6 rfl (zbr (by decide +kernel)) zaY zaZ) (zaf 0 rfl (zbj (by decide +kernel)) zcR zcS) (by with_unfolding_all rfl)))))⟩) (fun _ _ _ _ => (zaf 0 rfl (zbj (by decide +kernel)) zcR zcS))) (zeg zal) (zbz _)) (zbz _)) (zae (zbB i_bl)
    zao) zao)
    (zae (zbe 8 sc58.nd rfl zgo (zax (zap (hall 27) rfl) hr zck T.m27 T.f27.kp (T.b27) (zad (zaf 1 rfl zaG zaA zaB) (zad (zaf 2 rfl zaI zaK zaL) (zad (zaf 3 rfl za9 zbc zbd) (zad (zaf 4 rfl zeI zfH zfI) zal zab) zab) zab) zab) zcQ zab (zai zab (zai zab (zai zab zam)))))
    (zae (zbe 9 sc58.nd rfl zf0 (zax (zap (hall 27) rfl) hr zck T.m27 T.f27.kp (T.b27) (zad (zaf 1 rfl zaG zaA zaB) (zad (zaf 2 rfl zaI zaK zaL) (zad (zaf 4 rfl zeI zfH zfI) (zad (zaf 5 rfl za0 zaY zaZ) zal zab) zab) zab) zab) zcQ zab (zai zab (zai zab (zai zab zam)))))
    (zae (s_if (IW.t (zom (zmK (zaf 8 rfl zdm zdY zdZ)) (zom (zmK (zaf 9 rfl zcU zdh zdi)) (zmA (IW.t (t_or (zsL (zaf 6 rfl zaM zaV zaW)) (zlk (zcg rfl zqC (zaf 6 rfl zaM zaV zaW) (i_op zbv (zaf 8 rfl zdm zdY zdZ) (zaf 9 rfl zcU zdh zdi)) (zbz _))))))))) (zae (zbB i_bl)
    zao) zao)
    (zae (zbe 10 sc58.nd rfl zfZ (zg9 zg6 zjj T.z_tuple PyProof.Rows.boot_tuple (zad (zbg zmX zlQ T.z_sorted PyProof.Rows.boot_sorted (zad (zdF rfl (zdG (sc := zaa (top 43)) (N := ["_law_script", "_law_floor_here", "_law_leap_here", "_law_one", "_law_two", "_law_three", "_law_straight", "_law_parts", "_law_first", "_law_second", "_law_turned", "_law_up", "_law_moved", "_law_free"]) rfl rfl (by decide +kernel)) (zbN (zaf 1 rfl zaG zaA zaB)) (.inl ⟨rfl, rfl⟩) (fun _ _ _ _ => (zbi (zad (i_ix hr.units (zaf 0 rfl (zbj (by decide +kernel)) zay zaz) zak (fun _ _ => rfl)) (zad (i_ix hr.units (zaf 0 rfl (zbj (by decide +kernel)) zay zaz) zak (fun _ _ => rfl)) zal zah) zah)))) zal zaE) znA znz zaE zam) zal zaD) zdO zdN zaD zam))
    (zae (s_if (zcg rfl (zmu hr.units) (zax (zap (hall 27) rfl) hr zck T.m27 T.f27.kp (T.b27) (zad (zaf 10 rfl zfY zgg zgh) (zad (zaf 2 rfl zaI zaK zaL) (zad (zbi (zad (i_ix hr.units (zaf 3 rfl za9 zbc zbd) zak (fun _ _ => rfl)) (zad (i_ix hr.units (zaf 3 rfl za9 zbc zbd) zak (fun _ _ => rfl)) zal zah) zah)) (zad (zbi (zad (i_ix hr.units (zaf 5 rfl za0 zaY zaZ) zak (fun _ _ => rfl)) (zad (i_ix hr.units (zaf 5 rfl za0 zaY zaZ) zak (fun _ _ => rfl)) zal zah) zah)) zal zar) zar) zab) zab) zcQ zab (zai zab (zai zar (zai zar zam)))) (zaf 6 rfl zaM zaV zaW) (zbz _)) (zae (zbB i_bl)
    zao) zao)
    (zae (zbe 11 sc58.nd rfl zkd (zbg (zqP rfl) zrw T.z_min PyProof.Rows.boot_min (zad (zdF rfl (zdG (sc := zaa (top 43)) (N := ["_law_script", "_law_floor_here", "_law_leap_here", "_law_one", "_law_two", "_law_three", "_law_straight", "_law_parts", "_law_first", "_law_second", "_law_turned", "_law_up", "_law_moved", "_law_free"]) rfl rfl (by decide +kernel)) (zbN (zaf 1 rfl zaG zaA zaB)) (.inl ⟨rfl, rfl⟩) (fun _ _ _ _ => (i_ix hr.units (zaf 0 rfl (zbj (by decide +kernel)) zay zaz) zak (fun _ _ => rfl)))) zal zaE) zpY zpX zaE zam))
    (zae (zbe 12 sc58.nd rfl zgn (zg9 zg6 zjj T.z_tuple PyProof.Rows.boot_tuple (zad (zdF rfl (zdG (sc := zaa (top 43)) (N := ["_law_script", "_law_floor_here", "_law_leap_here", "_law_one", "_law_two", "_law_three", "_law_straight", "_law_parts", "_law_first", "_law_second", "_law_turned", "_law_up", "_law_moved", "_law_free"]) rfl rfl (by decide +kernel)) (zbN (zaf 1 rfl zaG zaA zaB)) (.inl ⟨rfl, rfl⟩) (fun _ _ _ _ => (zbi (zad (i_op zcz (i_ix hr.units (zaf 0 rfl (zbj (by decide +kernel)) zay zaz) zak (fun _ _ => rfl)) (zaf 12 rfl (zbr (by decide +kernel)) zel zem)) (zad (i_ix hr.units (zaf 0 rfl (zbj (by decide +kernel)) zay zaz) zak (fun _ _ => rfl)) zal zah) zaq)))) zal zaE) zdO zdN zaE zam))
    (zae (s_if (zcg rfl (zmu hr.units) (zax (zap (hall 27) rfl) hr zck T.m27 T.f27.kp (T.b27) (zad (zaf 12 rfl zgl zhx zhy) (zad (zaf 2 rfl zaI zaK zaL) (zad (zbi (zad (i_op zcz (i_ix hr.units (zaf 3 rfl za9 zbc zbd) zak (fun _ _ => rfl)) (zaf 11 rfl zfX zel zem)) (zad (i_ix hr.units (zaf 3 rfl za9 zbc zbd) zak (fun _ _ => rfl)) zal zah) zaq)) (zad (zbi (zad (i_op zcz (i_ix hr.units (zaf 5 rfl za0 zaY zaZ) zak (fun _ _ => rfl)) (zaf 11 rfl zfX zel zem)) (zad (i_ix hr.units (zaf 5 rfl za0 zaY zaZ) zak (fun _ _ => rfl)) zal zah) zaq)) zal zar) zar) zab) zab) zcQ zab (zai zab (zai zar (zai zar zam)))) (zaf 6 rfl zaM zaV zaW) (zbz _)) (zae (zbB i_bl)
    zao) zao)
    (zae (zbe 13 sc58.nd rfl zhX (zax (zap (hall 57) rfl) hr zf1 T.m57 T.f57.kp (T.b57) (zad (zaf 2 rfl zaI zaK zaL) (zad (i_op zcz (i_ix hr.units (zaf 5 rfl za0 zaY zaZ) zak (fun _ _ => rfl)) (i_ix hr.units (zaf 3 rfl za9 zbc zbd) zak (fun _ _ => rfl))) (zad (i_op zcz (i_ix hr.units (zaf 5 rfl za0 zaY zaZ) zak (fun _ _ => rfl)) (i_ix hr.units (zaf 3 rfl za9 zbc zbd) zak (fun _ _ => rfl))) zal zaq) zaq) zab) zgf zab (zai zaq (zai zaq zam))))
    (zae (zbB (i_or (zsJ (zaf 6 rfl zaM zaV zaW)) (zju (zjv (zsK (zaf 13 rfl zd8 zeD zeE)) (zju (zjt zmv (zaf 13 rfl zd8 zeD zeE) (zaf 6 rfl zaM zaV zaW) (zbz _)))))))
    zao))))))))))))))))
theorem za2 (T : Txt K mg F FD TK) : ∀ n i, FnOk Pg w K mg base CX0 n (F i) (FD i) (psOf i) (spA K (zas U fuel n) i (ioOf i))
  | 0, _ => zqN
  | n + 1, 0 => zbC (F0 := ⟨3, 3, ir0, [], none⟩) T.f0 sc0 rfl rfl rfl rfl (by decide) rfl (zw5 T (za2 T n))
  | n + 1, 1 => zbC (F0 := ⟨1, 1, ir1, [], none⟩) T.f1 sc1 rfl rfl rfl rfl (by decide) rfl (zw6 T (za2 T n))
  | n + 1, 2 => zbC (F0 := ⟨1, 1, ir2, [], none⟩) T.f2 sc2 rfl rfl rfl rfl (by decide) rfl (zw7 T (za2 T n))
  | n + 1, 3 => zbC (F0 := ⟨1, 1, ir3, [], none⟩) T.f3 sc3 rfl rfl rfl rfl (by decide) rfl (zw8 T (za2 T n))
  | n + 1, 4 => zbC (F0 := ⟨1, 1, ir4, [], none⟩) T.f4 sc4 rfl rfl rfl rfl (by decide) rfl (zw9 T (za2 T n))
  | n + 1, 5 => zbC (F0 := ⟨1, 1, ir5, [], none⟩) T.f5 sc5 rfl rfl rfl rfl (by decide) rfl (zxa T (za2 T n))
  | n + 1, 6 => zbC (F0 := ⟨1, 1, ir6, [], none⟩) T.f6 sc6 rfl rfl rfl rfl (by decide) rfl (zxb T (za2 T n))
  | n + 1, 7 => zbC (F0 := ⟨1, 1, ir7, [], none⟩) T.f7 sc7 rfl rfl rfl rfl (by decide) rfl (zxc T (za2 T n))
  | n + 1, 8 => zbC (F0 := ⟨2, 2, ir8, [], none⟩) T.f8 sc8 rfl rfl rfl rfl (by decide) rfl (zxd T (za2 T n))
  | n + 1, 9 => zbC (F0 := ⟨2, 2, ir9, [], none⟩) T.f9 sc9 rfl rfl rfl rfl (by decide) rfl (zxe T (za2 T n))
  | n + 1, 10 => zbC (F0 := ⟨3, 3, ir10, [], none⟩) T.f10 sc10 rfl rfl rfl rfl (by decide) rfl (zt8 T (za2 T n))
  | n + 1, 11 => zbC (F0 := ⟨3, 3, ir11, [], none⟩) T.f11 sc11 rfl rfl rfl rfl (by decide) rfl (zt9 T (za2 T n))
  | n + 1, 12 => zaF rfl
  | n + 1, 13 => zbC (F0 := ⟨2, 2, ir13, [], none⟩) T.f13 sc13 rfl rfl rfl rfl (by decide) rfl (zua T (za2 T n))
  | n + 1, 14 => zbC (F0 := ⟨3, 3, ir14, [], none⟩) T.f14 sc14 rfl rfl rfl rfl (by decide) rfl (zub T (za2 T n))
  | n + 1, 15 => zbC (F0 := ⟨3, 13, ir15, [], none⟩) T.f15 sc15 rfl rfl rfl rfl (by decide) rfl (zuc T (za2 T n))
  | n + 1, 16 => zbC (F0 := ⟨1, 2, ir16, [], none⟩) T.f16 sc16 rfl rfl rfl rfl (by decide) rfl (zud T (za2 T n))
  | n + 1, 17 => zaF rfl
  | n + 1, 18 => zaF rfl
  | n + 1, 19 => zaF rfl
  | n + 1, 20 => zbC (F0 := ⟨3, 8, ir20, [], none⟩) T.f20 sc20 rfl rfl rfl rfl (by decide) rfl (zue T (za2 T n))
  | n + 1, 21 => zbC (F0 := ⟨1, 1, ir21, [], none⟩) T.f21 sc21 rfl rfl rfl rfl (by decide) rfl (zuf T (za2 T n))
  | n + 1, 22 => zbC (F0 := ⟨1, 2, ir22, [], none⟩) T.f22 sc22 rfl rfl rfl rfl (by decide) rfl (zug T (za2 T n))
  | n + 1, 23 => zaF rfl
  | n + 1, 24 => zaF rfl
  | n + 1, 25 => zaF rfl
  | n + 1, 26 => zbC (F0 := ⟨4, 6, ir26, [], none⟩) T.f26 sc26 rfl rfl rfl rfl (by decide) rfl (zuh T (za2 T n))
  | n + 1, 27 => zbC (F0 := ⟨4, 5, ir27, [], none⟩) T.f27 sc27 rfl rfl rfl rfl (by decide) rfl (zui T (za2 T n))
  | n + 1, 28 => zaF rfl
  | n + 1, 29 => zaF rfl
  | n + 1, 30 => zbC (F0 := ⟨2, 6, ir30, [], none⟩) T.f30 sc30 rfl rfl rfl rfl (by decide) rfl (zuj T (za2 T n))
  | n + 1, 31 => zbC (F0 := ⟨2, 2, ir31, [], none⟩) T.f31 sc31 rfl rfl rfl rfl (by decide) rfl (zuk T (za2 T n))
  | n + 1, 32 => zaF rfl
  | n + 1, 33 => zaF rfl
  | n + 1, 34 => zaF rfl
  | n + 1, 35 => zaF rfl
  | n + 1, 36 => zaF rfl
  | n + 1, 37 => zaF rfl
  | n + 1, 38 => zaF rfl
  | n + 1, 39 => zaF rfl
  | n + 1, 40 => zaF rfl
  | n + 1, 41 => zaF rfl
  | n + 1, 42 => zaF rfl
  | n + 1, 43 => zaF rfl
  | n + 1, 44 => zaF rfl
  | n + 1, 45 => zaF rfl
  | n + 1, 46 => zaF rfl
  | n + 1, 47 => zaF rfl
  | n + 1, 48 => zaF rfl
  | n + 1, 49 => zaF rfl
  | n + 1, 50 => zaF rfl
  | n + 1, 51 => zaF rfl
  | n + 1, 52 => zaF rfl
  | n + 1, 53 => zbC (F0 := ⟨1, 1, ir53, [], none⟩) T.f53 sc53 rfl rfl rfl rfl (by decide) rfl (zul T (za2 T n))
  | n + 1, 54 => zbC (F0 := ⟨3, 4, ir54, [], none⟩) T.f54 sc54 rfl rfl rfl rfl (by decide) rfl (zum T (za2 T n))
  | n + 1, 55 => zbC (F0 := ⟨2, 6, ir55, [], none⟩) T.f55 sc55 rfl rfl rfl rfl (by decide) rfl (zun T (za2 T n))
  | n + 1, 56 => zbC (F0 := ⟨3, 6, ir56, [2], none⟩) T.f56 sc56 rfl rfl rfl rfl (by decide) rfl (zuo T (za2 T n))
  | n + 1, 57 => zbC (F0 := ⟨3, 7, ir57, [], none⟩) T.f57 sc57 rfl rfl rfl rfl (by decide) rfl (zup T (za2 T n))
  | n + 1, 58 => zbC (F0 := ⟨1, 14, ir58, [], none⟩) T.f58 sc58 rfl rfl rfl rfl (by decide) rfl (zuq T (za2 T n))
  | n + 1, _ + 59 => zaF rfl
theorem zur {h : Heap} (X : K.In h) (G : h.Ns mainGlobals mg) {f0 f1 f2 f3 f4 f5 f6 f7 f8 f9 f10 f11 f13 f14 f15 f16 f20 f21 f22 f26 f27 f30 f31 f53 f54 f55 f56 f57 f58 : Addr} {od0 od1 od2 od3 od4 od5 od6 od7 od8 od9 od10 od11 od13 od14 od15 od16 od20 od21 od22 od26 od27 od30 od31 od53 od54 od55 od56 od57 od58 an0 an1 an2 an3 an4 an5 an6 an7 an8 an9 an10 an11 an13 an14 an15 an16 an20 an21 an22 an26 an27 an30 an31 an53 an54 an55 an56 an57 an58 : Option Addr} {sl0 sl1 sl2 sl3 sl4 sl5 sl6 sl7 sl8 sl9 sl10 sl11 sl13 sl14 sl15 sl16 sl20 sl21 sl22 sl26 sl27 sl30 sl31 sl53 sl54 sl55 sl56 sl57 sl58 : Array (Option Value)} {oc0 oc1 oc2 oc3 oc4 oc5 oc6 oc7 oc8 oc9 oc10 oc11 oc13 oc14 oc15 oc16 oc20 oc21 oc22 oc26 oc27 oc30 oc31 oc53 oc54 oc55 oc56 oc57 oc58 kV0 kV1 kV2 kV3 kV4 kV5 kV6 kV7 kV8 kV9 kV10 kV11 kV13 kV14 kV15 kV16 kV20 kV21 kV22 kV26 kV27 kV30 kV31 kV53 kV54 kV55 kV56 kV57 kV58 dc0 dc1 dc2 dc3 dc4 dc5 dc6 dc7 dc8 dc9 dc10 dc11 dc13 dc14 dc15 dc16 dc20 dc21 dc22 dc26 dc27 dc30 dc31 dc53 dc54 dc55 dc56 dc57 dc58 pm0 pm1 pm2 pm3 pm4 pm5 pm6 pm7 pm8 pm9 pm10 pm11 pm13 pm14 pm15 pm16 pm20 pm21 pm22 pm26 pm27 pm30 pm31 pm53 pm54 pm55 pm56 pm57 pm58 cd0 cd1 cd2 cd3 cd4 cd5 cd6 cd7 cd8 cd9 cd10 cd11 cd13 cd14 cd15 cd16 cd20 cd21 cd22 cd26 cd27 cd30 cd31 cd53 cd54 cd55 cd56 cd57 cd58 ct0 ct1 ct2 ct3 ct4 ct5 ct6 ct7 ct8 ct9 ct10 ct11 ct13 ct14 ct15 ct16 ct20 ct21 ct22 ct26 ct27 ct30 ct31 ct53 ct54 ct55 ct56 ct57 ct58 : Value} {t0 t1 t2 t3 : Tok}
    (a0 : PySem.W.nsIn K mainGlobals "is_whole" = some (some (.ref f0))) (l0 : K.lookup f0 = some ⟨oc0, od0, .func (PySem.W.fnOf "is_whole" "is_whole" (zan (top 10)) (zag (top 10)) (zaa (top 10)) .none kV0 dc0 pm0 an0 cd0 ct0), sl0⟩) (e0 : PySem.W.codeIn K cd0 "is_whole" = true) (k0 : PySem.W.keepIn K (.ref f0) = true)
    (a1 : PySem.W.nsIn K mainGlobals "is_couple" = some (some (.ref f1))) (l1 : K.lookup f1 = some ⟨oc1, od1, .func (PySem.W.fnOf "is_couple" "is_couple" (zan (top 11)) (zag (top 11)) (zaa (top 11)) .none kV1 dc1 pm1 an1 cd1 ct1), sl1⟩) (e1 : PySem.W.codeIn K cd1 "is_couple" = true) (k1 : PySem.W.keepIn K (.ref f1) = true)
    (a2 : PySem.W.nsIn K mainGlobals "is_cell" = some (some (.ref f2))) (l2 : K.lookup f2 = some ⟨oc2, od2, .func (PySem.W.fnOf "is_cell" "is_cell" (zan (top 12)) (zag (top 12)) (zaa (top 12)) .none kV2 dc2 pm2 an2 cd2 ct2), sl2⟩) (e2 : PySem.W.codeIn K cd2 "is_cell" = true) (k2 : PySem.W.keepIn K (.ref f2) = true)
    (a3 : PySem.W.nsIn K mainGlobals "is_leap" = some (some (.ref f3))) (l3 : K.lookup f3 = some ⟨oc3, od3, .func (PySem.W.fnOf "is_leap" "is_leap" (zan (top 13)) (zag (top 13)) (zaa (top 13)) .none kV3 dc3 pm3 an3 cd3 ct3), sl3⟩) (e3 : PySem.W.codeIn K cd3 "is_leap" = true) (k3 : PySem.W.keepIn K (.ref f3) = true)
    (a4 : PySem.W.nsIn K mainGlobals "is_rising" = some (some (.ref f4))) (l4 : K.lookup f4 = some ⟨oc4, od4, .func (PySem.W.fnOf "is_rising" "is_rising" (zan (top 14)) (zag (top 14)) (zaa (top 14)) .none kV4 dc4 pm4 an4 cd4 ct4), sl4⟩) (e4 : PySem.W.codeIn K cd4 "is_rising" = true) (k4 : PySem.W.keepIn K (.ref f4) = true)
    (a5 : PySem.W.nsIn K mainGlobals "is_floor" = some (some (.ref f5))) (l5 : K.lookup f5 = some ⟨oc5, od5, .func (PySem.W.fnOf "is_floor" "is_floor" (zan (top 15)) (zag (top 15)) (zaa (top 15)) .none kV5 dc5 pm5 an5 cd5 ct5), sl5⟩) (e5 : PySem.W.codeIn K cd5 "is_floor" = true) (k5 : PySem.W.keepIn K (.ref f5) = true)
    (a6 : PySem.W.nsIn K mainGlobals "checked" = some (some (.ref f6))) (l6 : K.lookup f6 = some ⟨oc6, od6, .func (PySem.W.fnOf "checked" "checked" (zan (top 16)) (zag (top 16)) (zaa (top 16)) .none kV6 dc6 pm6 an6 cd6 ct6), sl6⟩) (e6 : PySem.W.codeIn K cd6 "checked" = true) (k6 : PySem.W.keepIn K (.ref f6) = true)
    (a7 : PySem.W.nsIn K mainGlobals "checked_leap" = some (some (.ref f7))) (l7 : K.lookup f7 = some ⟨oc7, od7, .func (PySem.W.fnOf "checked_leap" "checked_leap" (zan (top 17)) (zag (top 17)) (zaa (top 17)) .none kV7 dc7 pm7 an7 cd7 ct7), sl7⟩) (e7 : PySem.W.codeIn K cd7 "checked_leap" = true) (k7 : PySem.W.keepIn K (.ref f7) = true)
    (a8 : PySem.W.nsIn K mainGlobals "checked_cell" = some (some (.ref f8))) (l8 : K.lookup f8 = some ⟨oc8, od8, .func (PySem.W.fnOf "checked_cell" "checked_cell" (zan (top 18)) (zag (top 18)) (zaa (top 18)) .none kV8 dc8 pm8 an8 cd8 ct8), sl8⟩) (e8 : PySem.W.codeIn K cd8 "checked_cell" = true) (k8 : PySem.W.keepIn K (.ref f8) = true)
    (a9 : PySem.W.nsIn K mainGlobals "folded" = some (some (.ref f9))) (l9 : K.lookup f9 = some ⟨oc9, od9, .func (PySem.W.fnOf "folded" "folded" (zan (top 20)) (zag (top 20)) (zaa (top 20)) .none kV9 dc9 pm9 an9 cd9 ct9), sl9⟩) (e9 : PySem.W.codeIn K cd9 "folded" = true) (k9 : PySem.W.keepIn K (.ref f9) = true)
    (a10 : PySem.W.nsIn K mainGlobals "are_near" = some (some (.ref f10))) (l10 : K.lookup f10 = some ⟨oc10, od10, .func (PySem.W.fnOf "are_near" "are_near" (zan (top 21)) (zag (top 21)) (zaa (top 21)) .none kV10 dc10 pm10 an10 cd10 ct10), sl10⟩) (e10 : PySem.W.codeIn K cd10 "are_near" = true) (k10 : PySem.W.keepIn K (.ref f10) = true)
    (a11 : PySem.W.nsIn K mainGlobals "cells_near" = some (some (.ref f11))) (l11 : K.lookup f11 = some ⟨oc11, od11, .func (PySem.W.fnOf "cells_near" "cells_near" (zan (top 22)) (zag (top 22)) (zaa (top 22)) .none kV11 dc11 pm11 an11 cd11 ct11), sl11⟩) (e11 : PySem.W.codeIn K cd11 "cells_near" = true) (k11 : PySem.W.keepIn K (.ref f11) = true)
    (a13 : PySem.W.nsIn K mainGlobals "_law_cell" = some (some (.ref f13))) (l13 : K.lookup f13 = some ⟨oc13, od13, .func (PySem.W.fnOf "_law_cell" "_law_cell" (zan (top 39)) (zag (top 39)) (zaa (top 39)) .none kV13 dc13 pm13 an13 cd13 ct13), sl13⟩) (e13 : PySem.W.codeIn K cd13 "_law_cell" = true) (k13 : PySem.W.keepIn K (.ref f13) = true)
    (a14 : PySem.W.nsIn K mainGlobals "_law_mix" = some (some (.ref f14))) (l14 : K.lookup f14 = some ⟨oc14, od14, .func (PySem.W.fnOf "_law_mix" "_law_mix" (zan (top 40)) (zag (top 40)) (zaa (top 40)) .none kV14 dc14 pm14 an14 cd14 ct14), sl14⟩) (e14 : PySem.W.codeIn K cd14 "_law_mix" = true) (k14 : PySem.W.keepIn K (.ref f14) = true)
    (a15 : PySem.W.nsIn K mainGlobals "_law_floor" = some (some (.ref f15))) (l15 : K.lookup f15 = some ⟨oc15, od15, .func (PySem.W.fnOf "_law_floor" "_law_floor" (zan (top 41)) (zag (top 41)) (zaa (top 41)) .none kV15 dc15 pm15 an15 cd15 ct15), sl15⟩) (e15 : PySem.W.codeIn K cd15 "_law_floor" = true) (k15 : PySem.W.keepIn K (.ref f15) = true)
    (a16 : PySem.W.nsIn K mainGlobals "_law_leap" = some (some (.ref f16))) (l16 : K.lookup f16 = some ⟨oc16, od16, .func (PySem.W.fnOf "_law_leap" "_law_leap" (zan (top 42)) (zag (top 42)) (zaa (top 42)) .none kV16 dc16 pm16 an16 cd16 ct16), sl16⟩) (e16 : PySem.W.codeIn K cd16 "_law_leap" = true) (k16 : PySem.W.keepIn K (.ref f16) = true)
    (a20 : PySem.W.nsIn K mainGlobals "leads_to" = some (some (.ref f20))) (l20 : K.lookup f20 = some ⟨oc20, od20, .func (PySem.W.fnOf "leads_to" "leads_to" (zan (top 23)) (zag (top 23)) (zaa (top 23)) .none kV20 dc20 pm20 an20 cd20 ct20), sl20⟩) (e20 : PySem.W.codeIn K cd20 "leads_to" = true) (k20 : PySem.W.keepIn K (.ref f20) = true)
    (a21 : PySem.W.nsIn K mainGlobals "greatest_divisor" = some (some (.ref f21))) (l21 : K.lookup f21 = some ⟨oc21, od21, .func (PySem.W.fnOf "greatest_divisor" "greatest_divisor" (zan (top 25)) (zag (top 25)) (zaa (top 25)) .none kV21 dc21 pm21 an21 cd21 ct21), sl21⟩) (e21 : PySem.W.codeIn K cd21 "greatest_divisor" = true) (k21 : PySem.W.keepIn K (.ref f21) = true)
    (a22 : PySem.W.nsIn K mainGlobals "has_odd_sum" = some (some (.ref f22))) (l22 : K.lookup f22 = some ⟨oc22, od22, .func (PySem.W.fnOf "has_odd_sum" "has_odd_sum" (zan (top 26)) (zag (top 26)) (zaa (top 26)) .none kV22 dc22 pm22 an22 cd22 ct22), sl22⟩) (e22 : PySem.W.codeIn K cd22 "has_odd_sum" = true) (k22 : PySem.W.keepIn K (.ref f22) = true)
    (a26 : PySem.W.nsIn K mainGlobals "a_way" = some (some (.ref f26))) (l26 : K.lookup f26 = some ⟨oc26, od26, .func (PySem.W.fnOf "a_way" "a_way" (zan (top 29)) (zag (top 29)) (zaa (top 29)) .none kV26 dc26 pm26 an26 cd26 ct26), sl26⟩) (e26 : PySem.W.codeIn K cd26 "a_way" = true) (k26 : PySem.W.keepIn K (.ref f26) = true)
    (a27 : PySem.W.nsIn K mainGlobals "fewest" = some (some (.ref f27))) (l27 : K.lookup f27 = some ⟨oc27, od27, .func (PySem.W.fnOf "fewest" "fewest" (zan (top 30)) (zag (top 30)) (zaa (top 30)) .none kV27 dc27 pm27 an27 cd27 ct27), sl27⟩) (e27 : PySem.W.codeIn K cd27 "fewest" = true) (k27 : PySem.W.keepIn K (.ref f27) = true)
    (a30 : PySem.W.nsIn K mainGlobals "parts_within" = some (some (.ref f30))) (l30 : K.lookup f30 = some ⟨oc30, od30, .func (PySem.W.fnOf "parts_within" "parts_within" (zan (top 24)) (zag (top 24)) (zaa (top 24)) .none kV30 dc30 pm30 an30 cd30 ct30), sl30⟩) (e30 : PySem.W.codeIn K cd30 "parts_within" = true) (k30 : PySem.W.keepIn K (.ref f30) = true)
    (a31 : PySem.W.nsIn K mainGlobals "parts_of" = some (some (.ref f31))) (l31 : K.lookup f31 = some ⟨oc31, od31, .func (PySem.W.fnOf "parts_of" "parts_of" (zan (top 27)) (zag (top 27)) (zaa (top 27)) .none kV31 dc31 pm31 an31 cd31 ct31), sl31⟩) (e31 : PySem.W.codeIn K cd31 "parts_of" = true) (k31 : PySem.W.keepIn K (.ref f31) = true)
    (a53 : PySem.W.nsIn K mainGlobals "refuse_far" = some (some (.ref f53))) (l53 : K.lookup f53 = some ⟨oc53, od53, .func (PySem.W.fnOf "refuse_far" "refuse_far" (zan (top 33)) (zag (top 33)) (zaa (top 33)) .none kV53 dc53 pm53 an53 cd53 ct53), sl53⟩) (e53 : PySem.W.codeIn K cd53 "refuse_far" = true) (k53 : PySem.W.keepIn K (.ref f53) = true)
    (a54 : PySem.W.nsIn K mainGlobals "can_reach" = some (some (.ref f54))) (l54 : K.lookup f54 = some ⟨oc54, od54, .func (PySem.W.fnOf "can_reach" "can_reach" (zan (top 34)) (zag (top 34)) (zaa (top 34)) .none kV54 dc54 pm54 an54 cd54 ct54), sl54⟩) (e54 : PySem.W.codeIn K cd54 "can_reach" = true) (k54 : PySem.W.keepIn K (.ref f54) = true)
    (a55 : PySem.W.nsIn K mainGlobals "landings" = some (some (.ref f55))) (l55 : K.lookup f55 = some ⟨oc55, od55, .func (PySem.W.fnOf "landings" "landings" (zan (top 35)) (zag (top 35)) (zaa (top 35)) .none kV55 dc55 pm55 an55 cd55 ct55), sl55⟩) (e55 : PySem.W.codeIn K cd55 "landings" = true) (k55 : PySem.W.keepIn K (.ref f55) = true)
    (a56 : PySem.W.nsIn K mainGlobals "next_ring" = some (some (.ref f56))) (l56 : K.lookup f56 = some ⟨oc56, od56, .func (PySem.W.fnOf "next_ring" "next_ring" (zan (top 36)) (zag (top 36)) (zaa (top 36)) .none kV56 dc56 pm56 an56 cd56 ct56), sl56⟩) (e56 : PySem.W.codeIn K cd56 "next_ring" = true) (k56 : PySem.W.keepIn K (.ref f56) = true)
    (a57 : PySem.W.nsIn K mainGlobals "free_fewest" = some (some (.ref f57))) (l57 : K.lookup f57 = some ⟨oc57, od57, .func (PySem.W.fnOf "free_fewest" "free_fewest" (zan (top 37)) (zag (top 37)) (zaa (top 37)) .none kV57 dc57 pm57 an57 cd57 ct57), sl57⟩) (e57 : PySem.W.codeIn K cd57 "free_fewest" = true) (k57 : PySem.W.keepIn K (.ref f57) = true)
    (a58 : PySem.W.nsIn K mainGlobals "law" = some (some (.ref f58))) (l58 : K.lookup f58 = some ⟨oc58, od58, .func (PySem.W.fnOf "law" "law" (zan (top 43)) (zag (top 43)) (zaa (top 43)) .none kV58 dc58 pm58 an58 cd58 ct58), sl58⟩) (e58 : PySem.W.codeIn K cd58 "law" = true) (k58 : PySem.W.keepIn K (.ref f58) = true)
    (z_isinstance : PySem.W.nsIn K mainGlobals "isinstance" = some none)
    (z_int : PySem.W.nsIn K mainGlobals "int" = some none)
    (z_bool : PySem.W.nsIn K mainGlobals "bool" = some none)
    (z_len : PySem.W.nsIn K mainGlobals "len" = some none)
    (z_tuple : PySem.W.nsIn K mainGlobals "tuple" = some none)
    (z_range : PySem.W.nsIn K mainGlobals "range" = some none)
    (z_all : PySem.W.nsIn K mainGlobals "all" = some none)
    (z_abs : PySem.W.nsIn K mainGlobals "abs" = some none)
    (z_max : PySem.W.nsIn K mainGlobals "max" = some none)
    (z_min : PySem.W.nsIn K mainGlobals "min" = some none)
    (z_sorted : PySem.W.nsIn K mainGlobals "sorted" = some none)
    (c0 : PySem.W.nsIn K mainGlobals "LAST_LINE" = some (some (.int 7 t0)))
    (c1 : PySem.W.nsIn K mainGlobals "MOST_CELLS" = some (some (.int 24 t1)))
    (c2 : PySem.W.nsIn K mainGlobals "LONGEST_LEAP" = some (some (.int 4 t2)))
    (c3 : PySem.W.nsIn K mainGlobals "FURTHEST" = some (some (.int 12 t3)))
    : ∃ F FD TK, Txt K mg F FD TK ∧ F 58 = f58 ∧ (∀ (s : Shared) (u : Value), BindsTo s (FD 58) ⟨[u], []⟩ [("_law_script", u)]) :=
  ⟨fun i => match i with
     | 1 => f1
     | 2 => f2
     | 3 => f3
     | 4 => f4
     | 5 => f5
     | 6 => f6
     | 7 => f7
     | 8 => f8
     | 9 => f9
     | 10 => f10
     | 11 => f11
     | 13 => f13
     | 14 => f14
     | 15 => f15
     | 16 => f16
     | 20 => f20
     | 21 => f21
     | 22 => f22
     | 26 => f26
     | 27 => f27
     | 30 => f30
     | 31 => f31
     | 53 => f53
     | 54 => f54
     | 55 => f55
     | 56 => f56
     | 57 => f57
     | 58 => f58
     | _ => f0,
   fun i => match i with
     | 1 => PySem.W.fnOf "is_couple" "is_couple" (zan (top 11)) (zag (top 11)) (zaa (top 11)) .none kV1 dc1 pm1 an1 cd1 ct1
     | 2 => PySem.W.fnOf "is_cell" "is_cell" (zan (top 12)) (zag (top 12)) (zaa (top 12)) .none kV2 dc2 pm2 an2 cd2 ct2
     | 3 => PySem.W.fnOf "is_leap" "is_leap" (zan (top 13)) (zag (top 13)) (zaa (top 13)) .none kV3 dc3 pm3 an3 cd3 ct3
     | 4 => PySem.W.fnOf "is_rising" "is_rising" (zan (top 14)) (zag (top 14)) (zaa (top 14)) .none kV4 dc4 pm4 an4 cd4 ct4
     | 5 => PySem.W.fnOf "is_floor" "is_floor" (zan (top 15)) (zag (top 15)) (zaa (top 15)) .none kV5 dc5 pm5 an5 cd5 ct5
     | 6 => PySem.W.fnOf "checked" "checked" (zan (top 16)) (zag (top 16)) (zaa (top 16)) .none kV6 dc6 pm6 an6 cd6 ct6
     | 7 => PySem.W.fnOf "checked_leap" "checked_leap" (zan (top 17)) (zag (top 17)) (zaa (top 17)) .none kV7 dc7 pm7 an7 cd7 ct7
     | 8 => PySem.W.fnOf "checked_cell" "checked_cell" (zan (top 18)) (zag (top 18)) (zaa (top 18)) .none kV8 dc8 pm8 an8 cd8 ct8
     | 9 => PySem.W.fnOf "folded" "folded" (zan (top 20)) (zag (top 20)) (zaa (top 20)) .none kV9 dc9 pm9 an9 cd9 ct9
     | 10 => PySem.W.fnOf "are_near" "are_near" (zan (top 21)) (zag (top 21)) (zaa (top 21)) .none kV10 dc10 pm10 an10 cd10 ct10
     | 11 => PySem.W.fnOf "cells_near" "cells_near" (zan (top 22)) (zag (top 22)) (zaa (top 22)) .none kV11 dc11 pm11 an11 cd11 ct11
     | 13 => PySem.W.fnOf "_law_cell" "_law_cell" (zan (top 39)) (zag (top 39)) (zaa (top 39)) .none kV13 dc13 pm13 an13 cd13 ct13
     | 14 => PySem.W.fnOf "_law_mix" "_law_mix" (zan (top 40)) (zag (top 40)) (zaa (top 40)) .none kV14 dc14 pm14 an14 cd14 ct14
     | 15 => PySem.W.fnOf "_law_floor" "_law_floor" (zan (top 41)) (zag (top 41)) (zaa (top 41)) .none kV15 dc15 pm15 an15 cd15 ct15
     | 16 => PySem.W.fnOf "_law_leap" "_law_leap" (zan (top 42)) (zag (top 42)) (zaa (top 42)) .none kV16 dc16 pm16 an16 cd16 ct16
     | 20 => PySem.W.fnOf "leads_to" "leads_to" (zan (top 23)) (zag (top 23)) (zaa (top 23)) .none kV20 dc20 pm20 an20 cd20 ct20
     | 21 => PySem.W.fnOf "greatest_divisor" "greatest_divisor" (zan (top 25)) (zag (top 25)) (zaa (top 25)) .none kV21 dc21 pm21 an21 cd21 ct21
     | 22 => PySem.W.fnOf "has_odd_sum" "has_odd_sum" (zan (top 26)) (zag (top 26)) (zaa (top 26)) .none kV22 dc22 pm22 an22 cd22 ct22
     | 26 => PySem.W.fnOf "a_way" "a_way" (zan (top 29)) (zag (top 29)) (zaa (top 29)) .none kV26 dc26 pm26 an26 cd26 ct26
     | 27 => PySem.W.fnOf "fewest" "fewest" (zan (top 30)) (zag (top 30)) (zaa (top 30)) .none kV27 dc27 pm27 an27 cd27 ct27
     | 30 => PySem.W.fnOf "parts_within" "parts_within" (zan (top 24)) (zag (top 24)) (zaa (top 24)) .none kV30 dc30 pm30 an30 cd30 ct30
     | 31 => PySem.W.fnOf "parts_of" "parts_of" (zan (top 27)) (zag (top 27)) (zaa (top 27)) .none kV31 dc31 pm31 an31 cd31 ct31
     | 53 => PySem.W.fnOf "refuse_far" "refuse_far" (zan (top 33)) (zag (top 33)) (zaa (top 33)) .none kV53 dc53 pm53 an53 cd53 ct53
     | 54 => PySem.W.fnOf "can_reach" "can_reach" (zan (top 34)) (zag (top 34)) (zaa (top 34)) .none kV54 dc54 pm54 an54 cd54 ct54
     | 55 => PySem.W.fnOf "landings" "landings" (zan (top 35)) (zag (top 35)) (zaa (top 35)) .none kV55 dc55 pm55 an55 cd55 ct55
     | 56 => PySem.W.fnOf "next_ring" "next_ring" (zan (top 36)) (zag (top 36)) (zaa (top 36)) .none kV56 dc56 pm56 an56 cd56 ct56
     | 57 => PySem.W.fnOf "free_fewest" "free_fewest" (zan (top 37)) (zag (top 37)) (zaa (top 37)) .none kV57 dc57 pm57 an57 cd57 ct57
     | 58 => PySem.W.fnOf "law" "law" (zan (top 43)) (zag (top 43)) (zaa (top 43)) .none kV58 dc58 pm58 an58 cd58 ct58
     | _ => PySem.W.fnOf "is_whole" "is_whole" (zan (top 10)) (zag (top 10)) (zaa (top 10)) .none kV0 dc0 pm0 an0 cd0 ct0,
   fun i => [t0, t1, t2, t3].getD i 0,
   {
     m0 := PySem.W.mg_of X G a0
     f0 := zaw (st := top 10) l0 e0 k0
     b0 := (zaw (st := top 10) l0 e0 k0).binds (ps := psOf 0) fun _ _ _ _ _ _ us hl => on3 (P := fun us => bindArgs _ ⟨us, []⟩ = pure ((psOf 0).zip us)) (fun _ _ _ => rfl) us hl
     m1 := PySem.W.mg_of X G a1
     f1 := zaw (st := top 11) l1 e1 k1
     b1 := (zaw (st := top 11) l1 e1 k1).binds (ps := psOf 1) fun _ _ _ _ _ _ us hl => on1 (P := fun us => bindArgs _ ⟨us, []⟩ = pure ((psOf 1).zip us)) (fun _ => rfl) us hl
     m2 := PySem.W.mg_of X G a2
     f2 := zaw (st := top 12) l2 e2 k2
     b2 := (zaw (st := top 12) l2 e2 k2).binds (ps := psOf 2) fun _ _ _ _ _ _ us hl => on1 (P := fun us => bindArgs _ ⟨us, []⟩ = pure ((psOf 2).zip us)) (fun _ => rfl) us hl
     m3 := PySem.W.mg_of X G a3
     f3 := zaw (st := top 13) l3 e3 k3
     b3 := (zaw (st := top 13) l3 e3 k3).binds (ps := psOf 3) fun _ _ _ _ _ _ us hl => on1 (P := fun us => bindArgs _ ⟨us, []⟩ = pure ((psOf 3).zip us)) (fun _ => rfl) us hl
     m4 := PySem.W.mg_of X G a4
     f4 := zaw (st := top 14) l4 e4 k4
     b4 := (zaw (st := top 14) l4 e4 k4).binds (ps := psOf 4) fun _ _ _ _ _ _ us hl => on1 (P := fun us => bindArgs _ ⟨us, []⟩ = pure ((psOf 4).zip us)) (fun _ => rfl) us hl
     m5 := PySem.W.mg_of X G a5
     f5 := zaw (st := top 15) l5 e5 k5
     b5 := (zaw (st := top 15) l5 e5 k5).binds (ps := psOf 5) fun _ _ _ _ _ _ us hl => on1 (P := fun us => bindArgs _ ⟨us, []⟩ = pure ((psOf 5).zip us)) (fun _ => rfl) us hl
     m6 := PySem.W.mg_of X G a6
     f6 := zaw (st := top 16) l6 e6 k6
     b6 := (zaw (st := top 16) l6 e6 k6).binds (ps := psOf 6) fun _ _ _ _ _ _ us hl => on1 (P := fun us => bindArgs _ ⟨us, []⟩ = pure ((psOf 6).zip us)) (fun _ => rfl) us hl
     m7 := PySem.W.mg_of X G a7
     f7 := zaw (st := top 17) l7 e7 k7
     b7 := (zaw (st := top 17) l7 e7 k7).binds (ps := psOf 7) fun _ _ _ _ _ _ us hl => on1 (P := fun us => bindArgs _ ⟨us, []⟩ = pure ((psOf 7).zip us)) (fun _ => rfl) us hl
     m8 := PySem.W.mg_of X G a8
     f8 := zaw (st := top 18) l8 e8 k8
     b8 := (zaw (st := top 18) l8 e8 k8).binds (ps := psOf 8) fun _ _ _ _ _ _ us hl => on2 (P := fun us => bindArgs _ ⟨us, []⟩ = pure ((psOf 8).zip us)) (fun _ _ => rfl) us hl
     m9 := PySem.W.mg_of X G a9
     f9 := zaw (st := top 20) l9 e9 k9
     b9 := (zaw (st := top 20) l9 e9 k9).binds (ps := psOf 9) fun _ _ _ _ _ _ us hl => on2 (P := fun us => bindArgs _ ⟨us, []⟩ = pure ((psOf 9).zip us)) (fun _ _ => rfl) us hl
     m10 := PySem.W.mg_of X G a10
     f10 := zaw (st := top 21) l10 e10 k10
     b10 := (zaw (st := top 21) l10 e10 k10).binds (ps := psOf 10) fun _ _ _ _ _ _ us hl => on3 (P := fun us => bindArgs _ ⟨us, []⟩ = pure ((psOf 10).zip us)) (fun _ _ _ => rfl) us hl
     m11 := PySem.W.mg_of X G a11
     f11 := zaw (st := top 22) l11 e11 k11
     b11 := (zaw (st := top 22) l11 e11 k11).binds (ps := psOf 11) fun _ _ _ _ _ _ us hl => on3 (P := fun us => bindArgs _ ⟨us, []⟩ = pure ((psOf 11).zip us)) (fun _ _ _ => rfl) us hl
     m13 := PySem.W.mg_of X G a13
     f13 := zaw (st := top 39) l13 e13 k13
     b13 := (zaw (st := top 39) l13 e13 k13).binds (ps := psOf 13) fun _ _ _ _ _ _ us hl => on2 (P := fun us => bindArgs _ ⟨us, []⟩ = pure ((psOf 13).zip us)) (fun _ _ => rfl) us hl
     m14 := PySem.W.mg_of X G a14
     f14 := zaw (st := top 40) l14 e14 k14
     b14 := (zaw (st := top 40) l14 e14 k14).binds (ps := psOf 14) fun _ _ _ _ _ _ us hl => on3 (P := fun us => bindArgs _ ⟨us, []⟩ = pure ((psOf 14).zip us)) (fun _ _ _ => rfl) us hl
     m15 := PySem.W.mg_of X G a15
     f15 := zaw (st := top 41) l15 e15 k15
     b15 := (zaw (st := top 41) l15 e15 k15).binds (ps := psOf 15) fun _ _ _ _ _ _ us hl => on3 (P := fun us => bindArgs _ ⟨us, []⟩ = pure ((psOf 15).zip us)) (fun _ _ _ => rfl) us hl
     m16 := PySem.W.mg_of X G a16
     f16 := zaw (st := top 42) l16 e16 k16
     b16 := (zaw (st := top 42) l16 e16 k16).binds (ps := psOf 16) fun _ _ _ _ _ _ us hl => on1 (P := fun us => bindArgs _ ⟨us, []⟩ = pure ((psOf 16).zip us)) (fun _ => rfl) us hl
     m20 := PySem.W.mg_of X G a20
     f20 := zaw (st := top 23) l20 e20 k20
     b20 := (zaw (st := top 23) l20 e20 k20).binds (ps := psOf 20) fun _ _ _ _ _ _ us hl => on3 (P := fun us => bindArgs _ ⟨us, []⟩ = pure ((psOf 20).zip us)) (fun _ _ _ => rfl) us hl
     m21 := PySem.W.mg_of X G a21
     f21 := zaw (st := top 25) l21 e21 k21
     b21 := (zaw (st := top 25) l21 e21 k21).binds (ps := psOf 21) fun _ _ _ _ _ _ us hl => on1 (P := fun us => bindArgs _ ⟨us, []⟩ = pure ((psOf 21).zip us)) (fun _ => rfl) us hl
     m22 := PySem.W.mg_of X G a22
     f22 := zaw (st := top 26) l22 e22 k22
     b22 := (zaw (st := top 26) l22 e22 k22).binds (ps := psOf 22) fun _ _ _ _ _ _ us hl => on1 (P := fun us => bindArgs _ ⟨us, []⟩ = pure ((psOf 22).zip us)) (fun _ => rfl) us hl
     m26 := PySem.W.mg_of X G a26
     f26 := zaw (st := top 29) l26 e26 k26
     b26 := (zaw (st := top 29) l26 e26 k26).binds (ps := psOf 26) fun _ _ _ _ _ _ us hl => on4 (P := fun us => bindArgs _ ⟨us, []⟩ = pure ((psOf 26).zip us)) (fun _ _ _ _ => rfl) us hl
     m27 := PySem.W.mg_of X G a27
     f27 := zaw (st := top 30) l27 e27 k27
     b27 := (zaw (st := top 30) l27 e27 k27).binds (ps := psOf 27) fun _ _ _ _ _ _ us hl => on4 (P := fun us => bindArgs _ ⟨us, []⟩ = pure ((psOf 27).zip us)) (fun _ _ _ _ => rfl) us hl
     m30 := PySem.W.mg_of X G a30
     f30 := zaw (st := top 24) l30 e30 k30
     b30 := (zaw (st := top 24) l30 e30 k30).binds (ps := psOf 30) fun _ _ _ _ _ _ us hl => on2 (P := fun us => bindArgs _ ⟨us, []⟩ = pure ((psOf 30).zip us)) (fun _ _ => rfl) us hl
     m31 := PySem.W.mg_of X G a31
     f31 := zaw (st := top 27) l31 e31 k31
     b31 := (zaw (st := top 27) l31 e31 k31).binds (ps := psOf 31) fun _ _ _ _ _ _ us hl => on2 (P := fun us => bindArgs _ ⟨us, []⟩ = pure ((psOf 31).zip us)) (fun _ _ => rfl) us hl
     m53 := PySem.W.mg_of X G a53
     f53 := zaw (st := top 33) l53 e53 k53
     b53 := (zaw (st := top 33) l53 e53 k53).binds (ps := psOf 53) fun _ _ _ _ _ _ us hl => on1 (P := fun us => bindArgs _ ⟨us, []⟩ = pure ((psOf 53).zip us)) (fun _ => rfl) us hl
     m54 := PySem.W.mg_of X G a54
     f54 := zaw (st := top 34) l54 e54 k54
     b54 := (zaw (st := top 34) l54 e54 k54).binds (ps := psOf 54) fun _ _ _ _ _ _ us hl => on3 (P := fun us => bindArgs _ ⟨us, []⟩ = pure ((psOf 54).zip us)) (fun _ _ _ => rfl) us hl
     m55 := PySem.W.mg_of X G a55
     f55 := zaw (st := top 35) l55 e55 k55
     b55 := (zaw (st := top 35) l55 e55 k55).binds (ps := psOf 55) fun _ _ _ _ _ _ us hl => on2 (P := fun us => bindArgs _ ⟨us, []⟩ = pure ((psOf 55).zip us)) (fun _ _ => rfl) us hl
     m56 := PySem.W.mg_of X G a56
     f56 := zaw (st := top 36) l56 e56 k56
     b56 := (zaw (st := top 36) l56 e56 k56).binds (ps := psOf 56) fun _ _ _ _ _ _ us hl => on3 (P := fun us => bindArgs _ ⟨us, []⟩ = pure ((psOf 56).zip us)) (fun _ _ _ => rfl) us hl
     m57 := PySem.W.mg_of X G a57
     f57 := zaw (st := top 37) l57 e57 k57
     b57 := (zaw (st := top 37) l57 e57 k57).binds (ps := psOf 57) fun _ _ _ _ _ _ us hl => on3 (P := fun us => bindArgs _ ⟨us, []⟩ = pure ((psOf 57).zip us)) (fun _ _ _ => rfl) us hl
     m58 := PySem.W.mg_of X G a58
     f58 := zaw (st := top 43) l58 e58 k58
     b58 := (zaw (st := top 43) l58 e58 k58).binds (ps := psOf 58) fun _ _ _ _ _ _ us hl => on1 (P := fun us => bindArgs _ ⟨us, []⟩ = pure ((psOf 58).zip us)) (fun _ => rfl) us hl
     z_isinstance := PySem.W.mg_none_of X G z_isinstance
     z_int := PySem.W.mg_none_of X G z_int
     z_bool := PySem.W.mg_none_of X G z_bool
     z_len := PySem.W.mg_none_of X G z_len
     z_tuple := PySem.W.mg_none_of X G z_tuple
     z_range := PySem.W.mg_none_of X G z_range
     z_all := PySem.W.mg_none_of X G z_all
     z_abs := PySem.W.mg_none_of X G z_abs
     z_max := PySem.W.mg_none_of X G z_max
     z_min := PySem.W.mg_none_of X G z_min
     z_sorted := PySem.W.mg_none_of X G z_sorted
     c0 := PySem.W.mg_of X G c0
     c1 := PySem.W.mg_of X G c1
     c2 := PySem.W.mg_of X G c2
     c3 := PySem.W.mg_of X G c3
   }, rfl, fun s u => .of_eq rfl⟩
end
end LK
namespace LK
open PySem PySem.W L2
noncomputable def en (P : Params) (x : Str) (t : Nat) (v : Value) : DictEntry := ⟨PyData.keyHash P x, .str x t, v⟩
noncomputable def fo (i : Nat) (x m : Str) (t c : Nat) : Obj := ⟨.type "function", none, .func (fnOf x x (zan (top i)) (zag (top i)) (zaa (top i)) .none .none .none (.str m t) none (.ref c) .none), #[]⟩
noncomputable def co (x : Str) (t l a r h : Nat) : Obj := ⟨.type "code", none, .fields #[.str x t, .str x (t + 1), .str "/claim/cut.py" (t + 2), .int l 0, .int a 0, .int 0 0, .int 0 0, .int 3 0, .ref r, .bool true, .int 181 0, .ref (r + 1), .none, .ref (r + 2), .ref (r + 3), .ref (r + 4), .int h 0, .int l 0, .str "/claim/cut.py" (h + 1)], #[]⟩
noncomputable def cn (x : Str) (t l a r h : Nat) : Obj := ⟨.type "code", none, .fields #[.str x t, .str x (t + 1), .str "/claim/cut.py" (t + 2), .int l 0, .int a 0, .int 0 0, .int 0 0, .int 3 0, .ref r, .bool true, .int 181 0, .ref (r + 1), .none, .none, .none, .ref (r + 2), .int h 0, .int l 0, .str "/claim/cut.py" (h + 1)], #[]⟩
noncomputable def HK (P : Params) : Frag := [(3, .mk (.type "dict") none (.dict #[en P "__name__" 165 (.str "law_leaperwalk_k07_whole_ways" 499), en P "__doc__" 166 .none, en P "__package__" 167 .none, en P "__loader__" 168 (.builtin "__main__.__loader__#opaque"), en P "__spec__" 169 .none, en P "__annotations__" 170 (.ref 6), en P "__builtins__" 171 (.ref 4), en P "__file__" 173 (.str "/claim/cut.py" 172), en P "__cached__" 174 .none, en P "LeapError" 206 (.ref 24), en P "BadFloor" 222 (.ref 37), en P "BadLeap" 238 (.ref 49), en P "NoCell" 254 (.ref 61), en P "BadNumber" 270 (.ref 73), en P "LAST_LINE" 274 (.int 7 273), en P "MOST_CELLS" 276 (.int 24 275), en P "LONGEST_LEAP" 278 (.int 4 277), en P "is_whole" 287 (.ref 82), en P "is_couple" 294 (.ref 89), en P "is_cell" 301 (.ref 96), en P "is_leap" 308 (.ref 103), en P "is_rising" 314 (.ref 108), en P "is_floor" 320 (.ref 113), en P "checked" 327 (.ref 120), en P "checked_leap" 334 (.ref 127), en P "checked_cell" 342 (.ref 134), en P "folded" 352 (.ref 141), en P "are_near" 361 (.ref 148), en P "cells_near" 367 (.ref 153), en P "leads_to" 381 (.ref 160), en P "parts_within" 393 (.ref 167), en P "greatest_divisor" 399 (.ref 172), en P "has_odd_sum" 407 (.ref 179), en P "parts_of" 415 (.ref 186), en P "a_way" 429 (.ref 193), en P "fewest" 440 (.ref 200), en P "FURTHEST" 444 (.int 12 443), en P "refuse_far" 451 (.ref 207), en P "can_reach" 461 (.ref 214), en P "landings" 473 (.ref 221), en P "next_ring" 485 (.ref 228), en P "free_fewest" 498 (.ref 235), en P "_law_cell" 508 (.ref 242), en P "_law_mix" 517 (.ref 249), en P "_law_floor" 536 (.ref 256), en P "_law_leap" 544 (.ref 263), en P "law" 550 (.ref 268)] 47) #[]),
  (81, co "is_whole" 279 16 3 76 285),
  (82, fo 10 "is_whole" "leaperwalk.floors" 271 81),
  (88, co "is_couple" 288 20 1 83 292),
  (89, fo 11 "is_couple" "leaperwalk.floors" 271 88),
  (95, co "is_cell" 295 22 1 90 299),
  (96, fo 12 "is_cell" "leaperwalk.floors" 271 95),
  (102, co "is_leap" 302 24 1 97 306),
  (103, fo 13 "is_leap" "leaperwalk.floors" 271 102),
  (107, cn "is_rising" 309 26 1 104 312),
  (108, fo 14 "is_rising" "leaperwalk.floors" 271 107),
  (112, cn "is_floor" 315 28 1 109 318),
  (113, fo 15 "is_floor" "leaperwalk.floors" 271 112),
  (119, co "checked" 321 32 1 114 325),
  (120, fo 16 "checked" "leaperwalk.floors" 271 119),
  (126, co "checked_leap" 328 36 1 121 332),
  (127, fo 17 "checked_leap" "leaperwalk.floors" 271 126),
  (133, co "checked_cell" 335 40 2 128 340),
  (134, fo 18 "checked_cell" "leaperwalk.floors" 271 133),
  (140, co "folded" 345 45 2 135 350),
  (141, fo 20 "folded" "leaperwalk.leaps" 343 140),
  (147, co "are_near" 353 47 3 142 359),
  (148, fo 21 "are_near" "leaperwalk.leaps" 343 147),
  (152, cn "cells_near" 362 49 3 149 365),
  (153, fo 22 "cells_near" "leaperwalk.leaps" 343 152),
  (159, co "leads_to" 368 51 3 154 379),
  (160, fo 23 "leads_to" "leaperwalk.leaps" 343 159),
  (166, co "parts_within" 382 63 2 161 391),
  (167, fo 24 "parts_within" "leaperwalk.leaps" 343 166),
  (171, cn "greatest_divisor" 394 72 1 168 397),
  (172, fo 25 "greatest_divisor" "leaperwalk.leaps" 343 171),
  (178, co "has_odd_sum" 400 74 1 173 405),
  (179, fo 26 "has_odd_sum" "leaperwalk.leaps" 343 178),
  (185, co "parts_of" 408 77 2 180 413),
  (186, fo 27 "parts_of" "leaperwalk.leaps" 343 185),
  (192, co "a_way" 418 82 4 187 427),
  (193, fo 29 "a_way" "leaperwalk.ways" 416 192),
  (199, co "fewest" 430 94 4 194 438),
  (200, fo 30 "fewest" "leaperwalk.ways" 416 199),
  (206, co "refuse_far" 445 99 1 201 449),
  (207, fo 33 "refuse_far" "leaperwalk.endless" 441 206),
  (213, co "can_reach" 452 102 3 208 459),
  (214, fo 34 "can_reach" "leaperwalk.endless" 441 213),
  (220, co "landings" 462 110 2 215 471),
  (221, fo 35 "landings" "leaperwalk.endless" 441 220),
  (227, co "next_ring" 474 117 3 222 483),
  (228, fo 36 "next_ring" "leaperwalk.endless" 441 227),
  (234, co "free_fewest" 486 125 3 229 496),
  (235, fo 37 "free_fewest" "leaperwalk.endless" 441 234),
  (241, co "_law_cell" 501 137 2 236 506),
  (242, fo 39 "_law_cell" "law_leaperwalk_k07_whole_ways" 499 241),
  (248, co "_law_mix" 509 141 3 243 515),
  (249, fo 40 "_law_mix" "law_leaperwalk_k07_whole_ways" 499 248),
  (255, co "_law_floor" 518 143 3 250 534),
  (256, fo 41 "_law_floor" "law_leaperwalk_k07_whole_ways" 499 255),
  (262, co "_law_leap" 537 159 1 257 542),
  (263, fo 42 "_law_leap" "law_leaperwalk_k07_whole_ways" 499 262),
  (267, cn "law" 545 162 1 264 548),
  (268, fo 43 "law" "law_leaperwalk_k07_whole_ways" 499 267)]
noncomputable def HA : List Addr := [3, 81, 82, 88, 89, 95, 96, 102, 103, 107, 108, 112, 113, 119, 120, 126, 127, 133, 134, 140, 141, 147, 148, 152, 153, 159, 160, 166, 167, 171, 172, 178, 179, 185, 186, 192, 193, 199, 200, 206, 207, 213, 214, 220, 221, 227, 228, 234, 235, 241, 242, 248, 249, 255, 256, 262, 263, 267, 268]
noncomputable def HQ : Program := view PySem.Challenge.pw_leaperwalk_k07_whole_ways [1, 2, 3, 4, 5, 7, 8, 9, 10, 11, 12, 13, 14, 15, 16, 17, 18, 20, 21, 22, 23, 24, 25, 26, 27, 29, 30, 32, 33, 34, 35, 36, 37, 39, 40, 41, 42, 43]
theorem hka : ∀ P, HA = (HK P).map (·.1) := fun P => by kernel_rfl
noncomputable def HH : Hook := kHook HK HA hka
set_option maxHeartbeats 0 in
theorem zxf : LeftO PySem.Challenge.pw_leaperwalk_k07_whole_ways HQ [] (fun s => xlAt HQ [] s && recOk (RowW.records (OpenRow.toRowW (OpenLaw.row PySem.Challenge.rw_leaperwalk_k07_whole_ways))) s) HH.obs HH.val 4162 := by
  intro w
  kernel_rfl
end LK
open PySem PySem.W PyProof.Rows
set_option maxRecDepth 100000 in
set_option maxHeartbeats 0 in
theorem PySem.Challenge.cw_leaperwalk_k07_whole_ways_holds : PySem.Challenge.rw_leaperwalk_k07_whole_ways.Holds := by
  w_on; o_law
  refine PySem.W.holds_open (XP := XL LK.HQ []) LK.zxf (Hook.of LK.HH) (Hook.keeps LK.HH) (fun s e => xl_of s (Bool.and_eq_true_iff.mp e).1) XL.keeps (by rfl) (by rfl) (by rfl) (fun s e => recFacts_of (Bool.and_eq_true_iff.mp e).2) (by rfl) (by assumption) (by decide +kernel) ⟨rfl, rfl, rfl, rfl, rfl, by decide +kernel⟩ ?hw ?hc
  case hw => w_witness2
  refine L2.zob (K := LK.HK) (l := PySem.Challenge.rw_leaperwalk_k07_whole_ways) (n := 63) (k := LK.depth) (x := "_law_script") (CX := L2.CX0) (sp := fun K => L2.LW.spA K (L2.LW.zas LK.U LK.zat LK.depth) 58 []) rfl (by decide) rfl ⟨rfl, by decide, by decide⟩ (fun w h Y => Y) ?F ?S ?C
  case F =>
    intro w mg fa h KX G hmg
    have l0 : List.lookup 82 (LK.HK w.params) = some (LK.fo 10 "is_whole" "leaperwalk.floors" 271 81) := by kernel_rfl
    have l1 : List.lookup 89 (LK.HK w.params) = some (LK.fo 11 "is_couple" "leaperwalk.floors" 271 88) := by kernel_rfl
    have l2 : List.lookup 96 (LK.HK w.params) = some (LK.fo 12 "is_cell" "leaperwalk.floors" 271 95) := by kernel_rfl
    have l3 : List.lookup 103 (LK.HK w.params) = some (LK.fo 13 "is_leap" "leaperwalk.floors" 271 102) := by kernel_rfl
    have l4 : List.lookup 108 (LK.HK w.params) = some (LK.fo 14 "is_rising" "leaperwalk.floors" 271 107) := by kernel_rfl
    have l5 : List.lookup 113 (LK.HK w.params) = some (LK.fo 15 "is_floor" "leaperwalk.floors" 271 112) := by kernel_rfl
    have l6 : List.lookup 120 (LK.HK w.params) = some (LK.fo 16 "checked" "leaperwalk.floors" 271 119) := by kernel_rfl
    have l7 : List.lookup 127 (LK.HK w.params) = some (LK.fo 17 "checked_leap" "leaperwalk.floors" 271 126) := by kernel_rfl
    have l8 : List.lookup 134 (LK.HK w.params) = some (LK.fo 18 "checked_cell" "leaperwalk.floors" 271 133) := by kernel_rfl
    have l9 : List.lookup 141 (LK.HK w.params) = some (LK.fo 20 "folded" "leaperwalk.leaps" 343 140) := by kernel_rfl
    have l10 : List.lookup 148 (LK.HK w.params) = some (LK.fo 21 "are_near" "leaperwalk.leaps" 343 147) := by kernel_rfl
    have l11 : List.lookup 153 (LK.HK w.params) = some (LK.fo 22 "cells_near" "leaperwalk.leaps" 343 152) := by kernel_rfl
    have l13 : List.lookup 242 (LK.HK w.params) = some (LK.fo 39 "_law_cell" "law_leaperwalk_k07_whole_ways" 499 241) := by kernel_rfl
    have l14 : List.lookup 249 (LK.HK w.params) = some (LK.fo 40 "_law_mix" "law_leaperwalk_k07_whole_ways" 499 248) := by kernel_rfl
    have l15 : List.lookup 256 (LK.HK w.params) = some (LK.fo 41 "_law_floor" "law_leaperwalk_k07_whole_ways" 499 255) := by kernel_rfl
    have l16 : List.lookup 263 (LK.HK w.params) = some (LK.fo 42 "_law_leap" "law_leaperwalk_k07_whole_ways" 499 262) := by kernel_rfl
    have l20 : List.lookup 160 (LK.HK w.params) = some (LK.fo 23 "leads_to" "leaperwalk.leaps" 343 159) := by kernel_rfl
    have l21 : List.lookup 172 (LK.HK w.params) = some (LK.fo 25 "greatest_divisor" "leaperwalk.leaps" 343 171) := by kernel_rfl
    have l22 : List.lookup 179 (LK.HK w.params) = some (LK.fo 26 "has_odd_sum" "leaperwalk.leaps" 343 178) := by kernel_rfl
    have l26 : List.lookup 193 (LK.HK w.params) = some (LK.fo 29 "a_way" "leaperwalk.ways" 416 192) := by kernel_rfl
    have l27 : List.lookup 200 (LK.HK w.params) = some (LK.fo 30 "fewest" "leaperwalk.ways" 416 199) := by kernel_rfl
    have l30 : List.lookup 167 (LK.HK w.params) = some (LK.fo 24 "parts_within" "leaperwalk.leaps" 343 166) := by kernel_rfl
    have l31 : List.lookup 186 (LK.HK w.params) = some (LK.fo 27 "parts_of" "leaperwalk.leaps" 343 185) := by kernel_rfl
    have l53 : List.lookup 207 (LK.HK w.params) = some (LK.fo 33 "refuse_far" "leaperwalk.endless" 441 206) := by kernel_rfl
    have l54 : List.lookup 214 (LK.HK w.params) = some (LK.fo 34 "can_reach" "leaperwalk.endless" 441 213) := by kernel_rfl
    have l55 : List.lookup 221 (LK.HK w.params) = some (LK.fo 35 "landings" "leaperwalk.endless" 441 220) := by kernel_rfl
    have l56 : List.lookup 228 (LK.HK w.params) = some (LK.fo 36 "next_ring" "leaperwalk.endless" 441 227) := by kernel_rfl
    have l57 : List.lookup 235 (LK.HK w.params) = some (LK.fo 37 "free_fewest" "leaperwalk.endless" 441 234) := by kernel_rfl
    have l58 : List.lookup 268 (LK.HK w.params) = some (LK.fo 43 "law" "law_leaperwalk_k07_whole_ways" 499 267) := by kernel_rfl
    obtain ⟨F, FD, TK, T, e0, hb⟩ := LK.zur (t0 := 273) (t1 := 275) (t2 := 277) (t3 := 443) KX G (by kernel_rfl) l0 (by kernel_rfl) (by kernel_rfl) (by kernel_rfl) l1 (by kernel_rfl) (by kernel_rfl) (by kernel_rfl) l2 (by kernel_rfl) (by kernel_rfl) (by kernel_rfl) l3 (by kernel_rfl) (by kernel_rfl) (by kernel_rfl) l4 (by kernel_rfl) (by kernel_rfl) (by kernel_rfl) l5 (by kernel_rfl) (by kernel_rfl) (by kernel_rfl) l6 (by kernel_rfl) (by kernel_rfl) (by kernel_rfl) l7 (by kernel_rfl) (by kernel_rfl) (by kernel_rfl) l8 (by kernel_rfl) (by kernel_rfl) (by kernel_rfl) l9 (by kernel_rfl) (by kernel_rfl) (by kernel_rfl) l10 (by kernel_rfl) (by kernel_rfl) (by kernel_rfl) l11 (by kernel_rfl) (by kernel_rfl) (by kernel_rfl) l13 (by kernel_rfl) (by kernel_rfl) (by kernel_rfl) l14 (by kernel_rfl) (by kernel_rfl) (by kernel_rfl) l15 (by kernel_rfl) (by kernel_rfl) (by kernel_rfl) l16 (by kernel_rfl) (by kernel_rfl) (by kernel_rfl) l20 (by kernel_rfl) (by kernel_rfl) (by kernel_rfl) l21 (by kernel_rfl) (by kernel_rfl) (by kernel_rfl) l22 (by kernel_rfl) (by kernel_rfl) (by kernel_rfl) l26 (by kernel_rfl) (by kernel_rfl) (by kernel_rfl) l27 (by kernel_rfl) (by kernel_rfl) (by kernel_rfl) l30 (by kernel_rfl) (by kernel_rfl) (by kernel_rfl) l31 (by kernel_rfl) (by kernel_rfl) (by kernel_rfl) l53 (by kernel_rfl) (by kernel_rfl) (by kernel_rfl) l54 (by kernel_rfl) (by kernel_rfl) (by kernel_rfl) l55 (by kernel_rfl) (by kernel_rfl) (by kernel_rfl) l56 (by kernel_rfl) (by kernel_rfl) (by kernel_rfl) l57 (by kernel_rfl) (by kernel_rfl) (by kernel_rfl) l58 (by kernel_rfl) (by kernel_rfl) (by kernel_rfl) (by kernel_rfl) (by kernel_rfl) (by kernel_rfl) (by kernel_rfl) (by kernel_rfl) (by kernel_rfl) (by kernel_rfl) (by kernel_rfl) (by kernel_rfl) (by kernel_rfl) (by kernel_rfl) (by kernel_rfl) (by kernel_rfl) (by kernel_rfl)
    have e1 := hmg.symm.trans T.m58
    cases e1
    exact ⟨_, hb, fun base _ _ => LK.za2 T LK.depth 58⟩
  case S => exact fun K H a ns hl _ hS => L2.LW.zsM (LK.ziJ ns hl) hS
  case C => exact fun _ _ _ _ z => z
